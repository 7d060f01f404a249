/-
  The law RouteRings (package shunterlaw14), walked. Conditions: that package route comes to what RouteSpec says.
-/
import Derived.Test.YtphaaolnmbadcaaRouteNoneWalk
import Derived.Deep.DeepCutAuto
namespace Go.Proofs.Ytphaaolnmbadcaa
open Go.ChangeShapes Go.WideShapes Go.ChangeAt Go.RowKit
set_option linter.unusedVariables false

namespace Route
theorem chain_len (k : Nat) : (chainE (k + 1)).length = k := by simp [chainE]
theorem chain_snoc (k : Nat) : chainE (k + 1) ++ [((k : Int), (k : Int) + 1)] = chainE (k + 1 + 1) := by
  unfold chainE
  simp [List.range_succ]
theorem closed_i64 {N : Nat} (h3 : 3 ≤ N) (h6 : N ≤ 6) : (∀ x ∈ ringE N, (0 ≤ x.1 ∧ x.1 ≤ 6) ∧ (0 ≤ x.2 ∧ x.2 ≤ 6)) ∧ (∀ r ∈ chainN N, ∀ x ∈ r, 0 ≤ x ∧ x ≤ 6) ∧ (∀ r ∈ ringN N, ∀ x ∈ r, 0 ≤ x ∧ x ≤ 6) := by
  have h : N = 3 ∨ N = 4 ∨ N = 5 ∨ N = 6 := by omega
  rcases h with rfl | rfl | rfl | rfl <;> decide +kernel
theorem chainN_len (N : Nat) : (chainN N).length = N ∧ ∀ i, i < N → ((chainN N).getD i []).length = N := by
  rw [← upd_chain]
  exact ⟨upd_len _ _ _ _ _, fun i hi => upd_row_len _ _ _ _ _ hi⟩
theorem ringN_len (N : Nat) : (ringN N).length = N ∧ ∀ i, i < N → ((ringN N).getD i []).length = N := by
  rw [← upd_ring]
  exact ⟨upd_len _ _ _ _ _, fun i hi => upd_row_len _ _ _ _ _ hi⟩
end Route
theorem owns_base {w : World} {base n size : Nat} {e : TypeId} {v : Value} {xs : List Value} (h : w.ownsRow base e size v n xs) (hn : 0 < n) : base < w.heap.size := by
  rcases h.2 with ⟨_, h0⟩ | ⟨g, cap, cur, e, hb, hg, _⟩
  · omega
  · have := (Array.getElem?_eq_some_iff.1 hg).1
    omega
theorem MadeG.keep {F : Nat → Prop} {base : Nat} {p : PV} {es : List (Int × Int)} {ws : List Int} {rs : List (List Int)} {vs : List Value} {gs : List Nat} {w w' : World} (h : MadeG base p es ws rs vs gs w) (s : Sans F w w') (h1 : ∀ g ∈ gs, ¬ F g) (h2 : ∀ j, (Value.slice p.na p.nn p.nc).ownBlock = some j → ¬ F j) (h3 : ∀ j, (Value.slice p.wa p.wn p.wc).ownBlock = some j → ¬ F j) (h4 : ∀ j, (Value.slice p.ea p.en p.ec).ownBlock = some j → ¬ F j) : MadeG base p es ws rs vs gs w' :=
  ⟨owns_s1 h.he s h4, owns_s1 h.hw s h3, ⟨owns_s1 h.rw.own s h2, h.rw.lv, h.rw.lr, h.rw.lg, fun i hi => ⟨(h.rw.row i hi).1.keep s (h1 _ (h.rw.mem hi)), (h.rw.row i hi).2⟩, h.rw.apart⟩, h.hd⟩
theorem MadeG.lows {base : Nat} {p : PV} {es : List (Int × Int)} {ws : List Int} {rs : List (List Int)} {vs : List Value} {gs : List Nat} {w : World} (h : MadeG base p es ws rs vs gs w) : (∀ j, (Value.slice p.na p.nn p.nc).ownBlock = some j → j < w.heap.size) ∧ (∀ j, (Value.slice p.wa p.wn p.wc).ownBlock = some j → j < w.heap.size) ∧ (∀ j, (Value.slice p.ea p.en p.ec).ownBlock = some j → j < w.heap.size) :=
  ⟨fun j e => (h.rw.own.lt j e).2, fun j e => (h.hw.lt j e).2, fun j e => (h.he.lt j e).2⟩
/-- the plan with other edges, and rows that have turned -/
theorem MadeG.edged {base : Nat} {p : PV} {ws : List Int} {rs : List (List Int)} {vs : List Value} {gs : List Nat} {w : World} (h : MadeG base p [] ws rs vs gs w) {top k : Nat} {ea : Option Addr} {ec : Nat} {es : List (Int × Int)} (he : w.ownsRow top 31 2 (.slice ea k ec) es.length (pcells es)) (hb : base ≤ top) (hl : ∀ g ∈ gs, g < top) : Made base { p with ea := ea, en := k, ec := ec } es ws rs w :=
  ⟨owns_mono he hb, h.hw, vs, gs, h.rw, fun g hg => ⟨fun e => by have := (he.lt g e).1; have := hl g hg; omega, (h.hd g hg).2⟩⟩
set_option maxHeartbeats 16000000 in
set_option maxRecDepth 100000 in
theorem routeRings_any (S : RouteSpec) (w : World) (z0 : Int) (w0 : (Lit.int .u8 z0).wf = true) (z1 : Int) (w1 : (Lit.int .u8 z1).wf = true) (z2 : Int) (w2 : (Lit.int .u8 z2).wf = true) :
    Calls Try.prog 3 #[.int .u8 z0, .int .u8 z1, .int .u8 z2] w fun e w' => e = .returned (.bool true) ∧ Below w.heap.size w w' := by
  have b0 := bounds_u8 w0
  have b1 := bounds_u8 w1
  have b2 := bounds_u8 w2
  obtain ⟨nodes, rfl⟩ := Int.eq_ofNat_of_zero_le b0.1
  obtain ⟨room, rfl⟩ := Int.eq_ofNat_of_zero_le b1.1
  obtain ⟨more, rfl⟩ := Int.eq_ofNat_of_zero_le b2.1
  have h0 : nodes < 256 := by omega
  have h1 : room < 256 := by omega
  have h2 : more < 256 := by omega
  clear w0 w1 w2 b0 b1 b2
  go_enter Try.func3, Try.ntmps3
  go_wp2_with fail
  refine (makeN_is nodes room more 0 h0 h1 h2 (by omega) (oct0 w)).mono ?_
  rintro e wc ⟨q, rfl, hM, _, _, hBc⟩
  obtain ⟨hN2, hN6⟩ := Plan.mkN_b nodes
  have hN := hM.nodes
  rw [Route.full_none hN2 hN6] at hM
  obtain ⟨N, hNe⟩ : ∃ N, Plan.mkN nodes = N := ⟨_, rfl⟩
  have HNe : Hid (Plan.mkN nodes = N) := hNe
  rw [hNe] at hN hN2 hN6 hM
  have HNum : Hid (q.num = Plan.mkNum nodes room more) := hM.num
  obtain ⟨vs, gs, hMg⟩ := hM.made.g
  obtain ⟨rs, hrs⟩ : ∃ rs, Route.mkRows N [] = rs := ⟨_, rfl⟩
  have HRs : Hid (Route.mkRows N [] = rs) := hrs
  have hrl : rs.length = N := by rw [← hrs]; exact Route.mkRows_len N []
  have HRl : Hid (rs.length = N ∧ ∀ i, i < N → (rs.getD i []).length = N) := ⟨hrl, fun i hi => by rw [← hrs]; exact Route.mkRows_row [] hi⟩
  rw [hrs] at hMg
  have HLow : Hid (∀ g ∈ gs, g < wc.heap.size) := hMg.rw.low
  have HHigh : Hid (∀ g ∈ gs, w.heap.size ≤ g) := hMg.rw.high
  obtain ⟨lanes, room', queue, rounds, every, bag, start, ea0, en0, ec0, wa', wn, wc', b, nc, hq⟩ : ∃ lanes room' queue rounds every bag start ea0 en0 ec0 wa' wn wc' b nc, q = ⟨(N : Int), lanes, room', queue, rounds, every, bag, start, ea0, en0, ec0, wa', wn, wc', some ⟨b, 0, none⟩, N, nc⟩ := by
    obtain ⟨b, g0, vc, cap0, e1, e2, e3, _⟩ := hMg.store (t := 0) (by omega)
    obtain ⟨qN, lanes, room', queue, rounds, every, bag, start, ea, en, ec, wa', wn, wc', na, nn, nc⟩ := q
    simp only at hN e1 e2 e3
    exact ⟨lanes, room', queue, rounds, every, bag, start, ea, en, ec, wa', wn, wc', b, nc, by rw [hN, e1, e2, hrl]⟩
  subst hq
  obtain ⟨ws, hws⟩ : ∃ ws, Plan.mkW more (Plan.mkL more) = ws := ⟨_, rfl⟩
  have HWs : Hid (Plan.mkW more (Plan.mkL more) = ws) := hws
  rw [hws] at hMg
  have HMc : Hid (MadeG w.heap.size ⟨(N : Int), lanes, room', queue, rounds, every, bag, start, ea0, en0, ec0, wa', wn, wc', some ⟨b, 0, none⟩, N, nc⟩ [] ws rs vs gs wc) := hMg
  have HAll : Hid ((∀ j, (Value.slice (some ⟨b, 0, none⟩) N nc).ownBlock = some j → j < wc.heap.size) ∧ (∀ j, (Value.slice wa' wn wc').ownBlock = some j → j < wc.heap.size) ∧ (∀ j, (Value.slice ea0 en0 ec0).ownBlock = some j → j < wc.heap.size)) := hMg.lows
  have HWc : Hid (Below wc.heap.size wc (wc.alloc (PV.obj ⟨(N : Int), lanes, room', queue, rounds, every, bag, start, ea0, en0, ec0, wa', wn, wc', some ⟨b, 0, none⟩, N, nc⟩))) := fresh _ _
  have HBw : Hid (Below w.heap.size w (wc.alloc (PV.obj ⟨(N : Int), lanes, room', queue, rounds, every, bag, start, ea0, en0, ec0, wa', wn, wc', some ⟨b, 0, none⟩, N, nc⟩))) := later hBc (fresh _ _)
  have HY : Hid (Bx (wc.alloc (PV.obj ⟨(N : Int), lanes, room', queue, rounds, every, bag, start, ea0, en0, ec0, wa', wn, wc', some ⟨b, 0, none⟩, N, nc⟩)) wc.heap.size ⟨(N : Int), lanes, room', queue, rounds, every, bag, start, ea0, en0, ec0, wa', wn, wc', some ⟨b, 0, none⟩, N, nc⟩) := bx_new _ _
  have hwc : w.heap.size ≤ wc.heap.size := hBc.size
  have hws1 : (wc.alloc (PV.obj ⟨(N : Int), lanes, room', queue, rounds, every, bag, start, ea0, en0, ec0, wa', wn, wc', some ⟨b, 0, none⟩, N, nc⟩)).heap.size = wc.heap.size + 1 := by simp
  clear hM hBc hN hNe hMg hrs hrl hws
  simp only [PV.obj] at HWc HBw HY hws1
  simp only [PV.val]
  go_upto_region 2 with fail
  generalize wc.alloc _ = W at HWc HBw HY hws1 ⊢
  obtain ⟨g, hg⟩ : ∃ g, wc.heap.size = g := ⟨_, rfl⟩
  have HG : Hid (wc.heap.size = g) := hg
  rw [hg] at HY HWc HLow HAll hwc hws1 ⊢
  clear hg
  have y0 := HY.out.x.c0
  have y1 := HY.out.x.c1
  have yf := HY.out.f
  simp only at y0 y1
  by_cases hN3 : N < 3
  · have d1 : decide ((N : Int) < 3) = true := decide_eq_true (by omega)
    have d2 : decide (N < 3) = true := decide_eq_true hN3
    go_wp2_with fail
    refine (rknown_any S _).mono ?_
    rintro e w4 ⟨rfl, hB4⟩
    have HB4 : Hid (Below w.heap.size w w4) := later HBw.out hB4
    clear hB4
    go_wp2_with fail
    go_ret
    exact ⟨rfl, HB4.out⟩
  · have d1 : decide ((N : Int) < 3) = false := decide_eq_false (by omega)
    have d2 : decide (N < 3) = false := decide_eq_false hN3
    go_wp2_with fail
    have HX1 : Hid (Bx (W.setCell ⟨g, 1, none⟩ (.slice none 0 0)) g ⟨(N : Int), lanes, room', queue, rounds, every, bag, start, none, 0, 0, wa', wn, wc', some ⟨b, 0, none⟩, N, nc⟩) := HY.out.setE none 0 0
    have HS1 : Hid (Sans (fun j => j = g) W (W.setCell ⟨g, 1, none⟩ (.slice none 0 0))) := Sans.of_set _ _ _ rfl
    clear y0 y1 yf d1 d2
    generalize World.setCell _ _ _ = W1 at HX1 HS1 ⊢
    have hs1 := HS1.out.size
    go_loopw [9] (fun i wr => ∃ (k : Nat) (ea : Option Addr) (ec : Nat), k + 1 ≤ N ∧ i = .int .i64 (k + 1 : Nat) ∧ Bx wr g ⟨(N : Int), lanes, room', queue, rounds, every, bag, start, ea, k, ec, wa', wn, wc', some ⟨b, 0, none⟩, N, nc⟩ ∧ wr.ownsRow W.heap.size 31 2 (.slice ea k ec) (Route.chainE (k + 1)).length (pcells (Route.chainE (k + 1))) ∧ Sans (fun j => j = g) W wr) (fun i _ => N - (intOf i).toNat)
    case atStart => exact ⟨0, none, 0, by omega, rfl, HX1.out, World.ownsRow_nil _ _ _ _, HS1.out⟩
    case round =>
      obtain ⟨k, ea, ec, hk, rfl, hX, hO, hS⟩ := hrel
      have HX : Hid (Bx wr g ⟨(N : Int), lanes, room', queue, rounds, every, bag, start, ea, k, ec, wa', wn, wc', some ⟨b, 0, none⟩, N, nc⟩) := hX
      have HOe : Hid (wr.ownsRow W.heap.size 31 2 (.slice ea k ec) (Route.chainE (k + 1)).length (pcells (Route.chainE (k + 1)))) := hO
      have HS : Hid (Sans (fun j => j = g) W wr) := hS
      have hsz := hS.size
      have hc1 := hX.x.c1
      simp only at hc1
      clear hX hO hS
      by_cases hkN : k + 1 < N
      · have hkI : (k : Int) + 1 < (N : Int) := by omega
        have HA : Hid (Route.chainE (k + 1) ++ [((k : Int), (k : Int) + 1)] = Route.chainE (k + 1 + 1)) := Route.chain_snoc k
        have HL1 : Hid ((Route.chainE (k + 1)).length = k ∧ (Route.chainE (k + 1 + 1)).length = k + 1) := ⟨Route.chain_len k, Route.chain_len (k + 1)⟩
        have HgW : Hid (g < W.heap.size) := by show _ < _; omega
        have hgw : g < wr.heap.size := by omega
        have wk : IntKind.i64.wrap ((k : Int) + 1 - 1) = (k : Int) := by simp only [IntKind.wrap_i64]; omega
        have wk2 : IntKind.i64.wrap (k : Int) = (k : Int) := by simp only [IntKind.wrap_i64]; omega
        go_wp2_with (at_builtin; refine wpList_append_p rfl (.tmp 31) (.tmp 36) 22 31 rfl Try.underlying22 infoE W.heap.size (.slice ea k ec) (Route.chainE (k + 1)) rfl (owns_below HOe.out (fresh _ _)) (by simp; omega) _ 1 _ [((k : Int), (k : Int) + 1)] rfl (pr_one wr _ _ _) (fun e => by cases e) (by rw [HL1.out.1]; omega) _ HA.out ?_; intro v' w2 hown hB2; have hX2 := (HX.out.below (fresh wr _) hgw).below hB2 HgW.out; have q1 := hX2.x.c1; have f1 := hX2.f 1; simp only at q1; obtain ⟨a', cap', hv', _⟩ := pr_of_owns hown; rw [HL1.out.2] at hv'; subst hv'; have HX5 := hX2; clear hX2)
        go_roundw
        case rel =>
          have R1 := HX5.setE a' (k + 1) cap'
          have R2 := owns_sans hown (Sans.of_set (F := fun j => j = g) w2 ⟨g, 1, none⟩ (.slice a' (k + 1) cap') rfl) (fun j hj e => by have := HgW.out; omega)
          have R3 := ((HS.out.then (Sans.alloc wr _)).grew (Nat.le_refl _) (by simp; omega) hB2).stored 1 (.slice a' (k + 1) cap')
          first | exact ⟨k + 1, a', cap', by omega, by go_num, R1, R2, R3⟩ | ((repeat apply Exists.intro); exact ⟨⟨k + 1, a', cap', by omega, by go_num, R1, R2, R3⟩, rfl⟩)
        case measure => simp [intOf]; omega
      · have HkN : Hid (k + 1 = N) := by show _ = _; omega
        have hkI : ¬ (k : Int) + 1 < (N : Int) := by omega
        obtain ⟨W2, hW2⟩ : ∃ W2, W2 = wr := ⟨_, rfl⟩
        subst hW2
        have HL0 : Hid ((Route.chainE (k + 1)).length = k) := Route.chain_len k
        have HWc2 : Hid (Below g wc W2) := HWc.out.trans (HS.out.below (B := g) (by omega) (fun j e => by omega))
        have HB2 : Hid (Below w.heap.size w W2) := HBw.out.trans (HS.out.below (B := w.heap.size) (by omega) (fun j e => by omega))
        have HM2 : Hid (MadeG w.heap.size ⟨(N : Int), lanes, room', queue, rounds, every, bag, start, ea0, en0, ec0, wa', wn, wc', some ⟨b, 0, none⟩, N, nc⟩ [] ws rs vs gs W2) := HMc.out.sans (F := fun _ => False) (Sans.of_below (by rw [HG.out]; exact HWc2.out)) (fun _ _ e => e)
        obtain ⟨f1, hf1⟩ : ∃ f : Nat → Nat → Int, f = fun a b => if a < b then ((a + 1 : Nat) : Int) else ((a - 1 : Nat) : Int) := ⟨_, rfl⟩
        have HF1 : Hid (f1 = fun a b => if a < b then ((a + 1 : Nat) : Int) else ((a - 1 : Nat) : Int)) := hf1
        have HM3 : Hid (MadeG w.heap.size ⟨(N : Int), lanes, room', queue, rounds, every, bag, start, ea0, en0, ec0, wa', wn, wc', some ⟨b, 0, none⟩, N, nc⟩ [] ws (Route.upd f1 rs N 0 0) vs gs W2) := by
          show MadeG _ _ _ _ _ _ _ _
          rw [Route.upd_zero f1 HRl.out.1 HRl.out.2]
          exact HM2.out
        have hgW : g < W.heap.size := by omega
        have hWs2 : W.heap.size ≤ W2.heap.size := HS.out.size
        clear hf1 hc1
        go_wp2_with fail
        go_loopw [10, 11] (fun x _ wr => ∃ v : Nat, v ≤ N ∧ x = .int .i64 v ∧ MadeG w.heap.size ⟨(N : Int), lanes, room', queue, rounds, every, bag, start, ea0, en0, ec0, wa', wn, wc', some ⟨b, 0, none⟩, N, nc⟩ [] ws (Route.upd f1 rs N v 0) vs gs wr ∧ Bx wr g ⟨(N : Int), lanes, room', queue, rounds, every, bag, start, ea, k, ec, wa', wn, wc', some ⟨b, 0, none⟩, N, nc⟩ ∧ wr.ownsRow W.heap.size 31 2 (.slice ea k ec) (Route.chainE (k + 1)).length (pcells (Route.chainE (k + 1))) ∧ Below w.heap.size w wr) (fun x _ _ => N - (intOf x).toNat)
        case atStart => exact ⟨0, Nat.zero_le _, rfl, HM3.out, HX.out, HOe.out, HB2.out⟩
        case round =>
          obtain ⟨v, hv, rfl, hM, hX, hE, hBB⟩ := hrel
          have HM4 : Hid (MadeG w.heap.size ⟨(N : Int), lanes, room', queue, rounds, every, bag, start, ea0, en0, ec0, wa', wn, wc', some ⟨b, 0, none⟩, N, nc⟩ [] ws (Route.upd f1 rs N v 0) vs gs wr) := hM
          have HX4 : Hid (Bx wr g ⟨(N : Int), lanes, room', queue, rounds, every, bag, start, ea, k, ec, wa', wn, wc', some ⟨b, 0, none⟩, N, nc⟩) := hX
          have HE4 : Hid (wr.ownsRow W.heap.size 31 2 (.slice ea k ec) (Route.chainE (k + 1)).length (pcells (Route.chainE (k + 1)))) := hE
          have HB4 : Hid (Below w.heap.size w wr) := hBB
          clear hM hX hE hBB
          by_cases hvN : v < N
          · have hvI : (v : Int) < (N : Int) := by omega
            go_wp2_with fail
            go_loopw [11] (fun x wr => ∃ u : Nat, u ≤ N ∧ x = .int .i64 u ∧ MadeG w.heap.size ⟨(N : Int), lanes, room', queue, rounds, every, bag, start, ea0, en0, ec0, wa', wn, wc', some ⟨b, 0, none⟩, N, nc⟩ [] ws (Route.upd f1 rs N v u) vs gs wr ∧ Bx wr g ⟨(N : Int), lanes, room', queue, rounds, every, bag, start, ea, k, ec, wa', wn, wc', some ⟨b, 0, none⟩, N, nc⟩ ∧ wr.ownsRow W.heap.size 31 2 (.slice ea k ec) (Route.chainE (k + 1)).length (pcells (Route.chainE (k + 1))) ∧ Below w.heap.size w wr) (fun x _ => N - (intOf x).toNat)
            case atStart => exact ⟨0, Nat.zero_le _, rfl, HM4.out, HX4.out, HE4.out, HB4.out⟩
            case round =>
              obtain ⟨u, hu, rfl, hM, hX, hE, hBB⟩ := hrel
              have HM5 : Hid (MadeG w.heap.size ⟨(N : Int), lanes, room', queue, rounds, every, bag, start, ea0, en0, ec0, wa', wn, wc', some ⟨b, 0, none⟩, N, nc⟩ [] ws (Route.upd f1 rs N v u) vs gs wr) := hM
              have HX5 : Hid (Bx wr g ⟨(N : Int), lanes, room', queue, rounds, every, bag, start, ea, k, ec, wa', wn, wc', some ⟨b, 0, none⟩, N, nc⟩) := hX
              have HE5 : Hid (wr.ownsRow W.heap.size 31 2 (.slice ea k ec) (Route.chainE (k + 1)).length (pcells (Route.chainE (k + 1)))) := hE
              have HB5 : Hid (Below w.heap.size w wr) := hBB
              have hbs := hBB.size
              have x10 := hX.x.c10
              simp only at x10
              obtain ⟨b', gi, vc', cap, e1, e2, e3, hc1, hc2, hbg, hgm, hc4, cr, cc, cf, hst⟩ := hM.store (t := v) (by rw [Route.upd_len]; exact hvN)
              simp only at e1 e2 e3
              cases e1
              have hgB : gi < g := HLow.out gi hgm
              have hgW0 : w.heap.size ≤ gi := HHigh.out gi hgm
              rw [Route.upd_row_len f1 _ N v u hvN] at cr cc
              clear e2 e3 hM hX hE hBB hgm
              by_cases huN : u < N
              · have huI : (u : Int) < (N : Int) := by omega
                have ccu := cc u huN
                have cfu := cf u
                obtain ⟨z0, hz0⟩ : ∃ z, ((Route.upd f1 rs N v u).getD v []).getD u 0 = z := ⟨_, rfl⟩
                rw [hz0] at ccu
                clear hz0 cc cf
                by_cases hvu : v = u
                · subst hvu
                  have HE6 : Hid (Route.upd f1 rs N v (v + 1) = Route.upd f1 rs N v v) := Route.upd_miss f1 _ N v
                  have d1 : decide (v < v) = false := decide_eq_false (by omega)
                  clear hst ccu cfu
                  go_wp2_with fail
                  go_roundw
                  case rel =>
                    have R1 := HM5.out
                    rw [← HE6.out] at R1
                    first | exact ⟨v + 1, by omega, by go_num, R1, HX5.out, HE5.out, HB5.out⟩ | ((repeat apply Exists.intro); exact ⟨⟨v + 1, by omega, by go_num, R1, HX5.out, HE5.out, HB5.out⟩, rfl⟩)
                  case measure => simp [intOf]; omega
                · obtain ⟨z, hz⟩ : ∃ z, f1 v u = z := ⟨_, rfl⟩
                  have hst' := hst u (f1 v u)
                  rw [Route.upd_hit f1 _ hvN huN hvu, hz] at hst'
                  have HSt : Hid (MadeG w.heap.size ⟨(N : Int), lanes, room', queue, rounds, every, bag, start, ea0, en0, ec0, wa', wn, wc', some ⟨b, 0, none⟩, N, nc⟩ [] ws (Route.upd f1 rs N v (u + 1)) vs gs (wr.setCell ⟨gi, u, none⟩ (.int .i64 z))) := hst'
                  have HFin : Hid (Bx (wr.setCell ⟨gi, u, none⟩ (.int .i64 z)) g ⟨(N : Int), lanes, room', queue, rounds, every, bag, start, ea, k, ec, wa', wn, wc', some ⟨b, 0, none⟩, N, nc⟩ ∧ (wr.setCell ⟨gi, u, none⟩ (.int .i64 z)).ownsRow W.heap.size 31 2 (.slice ea k ec) (Route.chainE (k + 1)).length (pcells (Route.chainE (k + 1))) ∧ Below w.heap.size w (wr.setCell ⟨gi, u, none⟩ (.int .i64 z))) := by
                    have SG : Sans (fun i => i = gi) wr (wr.setCell ⟨gi, u, none⟩ (.int .i64 z)) := Sans.of_set _ _ _ rfl
                    exact ⟨HX5.out.sans SG (by omega), owns_sans HE5.out SG (fun j hj e => by omega), HB5.out.trans (SG.below (B := w.heap.size) hbs (fun j e => by omega))⟩
                  clear hst hst'
                  by_cases hvu2 : v < u
                  · have d1 : decide (v < u) = true := decide_eq_true hvu2
                    have d2 : decide (u < v) = false := decide_eq_false (by omega)
                    have d3 : decide ((v : Int) < (u : Int)) = true := decide_eq_true (by omega)
                    have d4 : decide ((u : Int) < (v : Int)) = false := decide_eq_false (by omega)
                    have hzv : (v : Int) + 1 = z := by have e := congrFun (congrFun HF1.out v) u; rw [if_pos hvu2, hz] at e; omega
                    clear hz hvu
                    go_wp2_with fail
                    go_roundw
                    case rel => first | exact ⟨u + 1, by omega, by go_num, HSt.out, HFin.out.1, HFin.out.2.1, HFin.out.2.2⟩ | ((repeat apply Exists.intro); exact ⟨⟨u + 1, by omega, by go_num, HSt.out, HFin.out.1, HFin.out.2.1, HFin.out.2.2⟩, rfl⟩)
                    case measure => simp [intOf]; omega
                  · have d1 : decide (v < u) = false := decide_eq_false hvu2
                    have d2 : decide (u < v) = true := decide_eq_true (by omega)
                    have d3 : decide ((v : Int) < (u : Int)) = false := decide_eq_false (by omega)
                    have d4 : decide ((u : Int) < (v : Int)) = true := decide_eq_true (by omega)
                    have hzv : (v : Int) - 1 = z := by have e := congrFun (congrFun HF1.out v) u; rw [if_neg hvu2, hz] at e; omega
                    have hzw : IntKind.i64.wrap z = z := by simp only [IntKind.wrap_i64]; omega
                    clear hz hvu hvu2
                    go_wp2_with fail
                    go_roundw
                    case rel => first | exact ⟨u + 1, by omega, by go_num, HSt.out, HFin.out.1, HFin.out.2.1, HFin.out.2.2⟩ | ((repeat apply Exists.intro); exact ⟨⟨u + 1, by omega, by go_num, HSt.out, HFin.out.1, HFin.out.2.1, HFin.out.2.2⟩, rfl⟩)
                    case measure => simp [intOf]; omega
              · have huI : ¬ (u : Int) < (N : Int) := by omega
                have HuN : Hid (u = N) := by show _ = _; omega
                have HE6 : Hid (Route.upd f1 rs N v N = Route.upd f1 rs N (v + 1) 0) := Route.upd_row f1 _ N v
                clear hst cc cf huN
                go_wp2_with fail
                go_roundw
                case rel =>
                  have R1 := HM5.out
                  rw [HuN.out, HE6.out] at R1
                  first | exact ⟨v + 1, by omega, by go_num, R1, HX5.out, HE5.out, HB5.out⟩ | ((repeat apply Exists.intro); exact ⟨⟨v + 1, by omega, by go_num, R1, HX5.out, HE5.out, HB5.out⟩, rfl⟩)
                case measure => simp [intOf]; omega
          · have hvI : ¬ (v : Int) < (N : Int) := by omega
            have HvN : Hid (v = N) := by show _ = _; omega
            clear hvN
            have hUC : Route.upd f1 rs N v 0 = Route.chainN N := by rw [HvN.out, ← HRs.out, HF1.out]; exact Route.upd_chain N
            have HMd : Hid (Made w.heap.size ⟨(N : Int), lanes, room', queue, rounds, every, bag, start, ea, k, ec, wa', wn, wc', some ⟨b, 0, none⟩, N, nc⟩ (Route.chainE N) ws (Route.chainN N) wr) := by
              have h := HM4.out.edged HE4.out (by omega) (fun gi hgi => by have := HLow.out gi hgi; omega)
              rw [hUC, HkN.out] at h
              exact h
            have h3N : 3 ≤ N := by omega
            obtain ⟨ci1, ci2, ci3⟩ := Route.closed_i64 h3N hN6
            obtain ⟨cf1, cf2⟩ := Route.chain_fine h3N hN6
            have HMk : Hid (MkN w.heap.size ⟨(N : Int), lanes, room', queue, rounds, every, bag, start, ea, k, ec, wa', wn, wc', some ⟨b, 0, none⟩, N, nc⟩ nodes room more (Route.chainE N) (Route.chainN N) wr) := ⟨HNum.out, by rw [HWs.out]; exact HMd.out⟩
            have HPc : Hid (PlN wr ⟨(N : Int), lanes, room', queue, rounds, every, bag, start, ea, k, ec, wa', wn, wc', some ⟨b, 0, none⟩, N, nc⟩ (Route.chainE N) (Plan.mkW more (Plan.mkL more)) (Route.chainN N)) := HMk.out.pln (by have h := Route.chain_len k; rw [HkN.out] at h; omega) (by rw [(Route.chainN_len N).1]; omega) (fun x hx => by have := ci1 x (List.mem_append_left _ hx); unfold I64; omega) (fun r hr x hx => by have := ci2 r hr x hx; unfold I64; omega)
            have HMay : Hid (Plan.may (PV.num ⟨(N : Int), lanes, room', queue, rounds, every, bag, start, ea, k, ec, wa', wn, wc', some ⟨b, 0, none⟩, N, nc⟩) (Route.chainE N) (Plan.mkW more (Plan.mkL more)) ((Route.chainN N).map List.length) = true) := mk_may_rows HNum.out (by rw [HNe.out]; exact cf2) (by rw [HNe.out]; exact (Route.chainN_len N).1) (by rw [HNe.out]; exact (Route.chainN_len N).2)
            have HFi : Hid (¬ Route.Bad (N : Int) (Route.chainE N) (Route.chainN N)) := cf1
            obtain ⟨y0, y1, y2, y3, y4, y5, y6, y7, y8, y9, y10⟩ := HX4.out.x
            simp only at y0 y1 y2 y3 y4 y5 y6 y7 y8 y9 y10
            clear ci1 ci2 cf1 cf2 hUC HMd HMk
            have HI3 : Hid (∀ r ∈ Route.ringN N, ∀ x ∈ r, 0 ≤ x ∧ x ≤ 6) := ci3
            clear ci3
            go_wp2_with fail
            refine (S.check' HPc.out HMay.out 0 (.inr (.inr ⟨rfl, HFi.out, rfl⟩))).mono ?_
            rintro e w5 ⟨rfl, hB5⟩
            have hg4 : g < wr.heap.size := cell_lt y0
            have HM5 : Hid (MadeG w.heap.size ⟨(N : Int), lanes, room', queue, rounds, every, bag, start, ea0, en0, ec0, wa', wn, wc', some ⟨b, 0, none⟩, N, nc⟩ [] ws (Route.upd f1 rs N N 0) vs gs w5) := by
              have h := HM4.out.sans (F := fun _ => False) (Sans.of_below hB5) (fun _ _ e => e)
              rw [HvN.out] at h
              exact h
            have HX5 : Hid (Bx w5 g ⟨(N : Int), lanes, room', queue, rounds, every, bag, start, ea, k, ec, wa', wn, wc', some ⟨b, 0, none⟩, N, nc⟩) := HX4.out.below hB5 hg4
            have HE5 : Hid (w5.ownsRow W.heap.size 31 2 (.slice ea k ec) (Route.chainE (k + 1)).length (pcells (Route.chainE (k + 1)))) := owns_below HE4.out hB5
            have HB5 : Hid (Below w.heap.size w w5) := later HB4.out hB5
            have hsW5 : W.heap.size < w5.heap.size := owns_base HE5.out (by rw [HL0.out]; omega)
            clear hB5 HM4 HX4 HE4 HB4 HPc HMay HFi y0 y1 y2 y3 y4 y5 y6 y7 y8 y9 y10
            have hc1 := HX5.out.x.c1
            simp only at hc1
            obtain ⟨e, he⟩ : ∃ e : Int, (N : Int) - 1 = e := ⟨_, rfl⟩
            have hwe : IntKind.i64.wrap e = e := by simp only [IntKind.wrap_i64]; omega
            have HA : Hid (Route.chainE (k + 1) ++ [((0 : Int), e)] = Route.ringE N) := by
              show _ = _
              unfold Route.ringE
              rw [HkN.out, ← he]
              congr 3
              omega
            have HRe : Hid ((Route.ringE N).length = k + 1) := by
              show _ = _
              rw [← HA.out, List.length_append, HL0.out]
              rfl
            have hg5 : g < w5.heap.size := by omega
            go_wp2_with (at_builtin; refine wpList_append_p rfl (.tmp 76) (.tmp 80) 22 31 rfl Try.underlying22 infoE W.heap.size (.slice ea k ec) (Route.chainE (k + 1)) rfl (owns_below HE5.out (fresh _ _)) (by simp; omega) _ 1 _ [((0 : Int), e)] rfl (pr_one w5 _ _ _) (fun e => by cases e) (by rw [HL0.out]; omega) _ HA.out ?_; intro v' w6 hown hB6; have hX2 := (HX5.out.below (fresh w5 _) hg5).below hB6 hgW; have q1 := hX2.x.c1; have f6 := hX2.f 1; simp only at q1; obtain ⟨a6, c6, hv', _⟩ := pr_of_owns hown; rw [HRe.out] at hv'; subst hv'; have HX6 : Hid (Bx w6 g ⟨(N : Int), lanes, room', queue, rounds, every, bag, start, ea, k, ec, wa', wn, wc', some ⟨b, 0, none⟩, N, nc⟩) := hX2; have HO6 : Hid (w6.ownsRow W.heap.size 31 2 (.slice a6 (k + 1) c6) (Route.ringE N).length (pcells (Route.ringE N))) := hown; have HB6 : Hid (Below W.heap.size (w5.alloc (.cells #[.int .i64 0, .int .i64 e] 31)) w6) := hB6; clear hX2 hown hB6)
            have SG7 : Sans (fun j => j = g ∨ W.heap.size ≤ j) w5 (w6.setCell ⟨g, 1, none⟩ (.slice a6 (k + 1) c6)) :=
              ((Sans.alloc w5 _).then ⟨HB6.out.os, HB6.out.tape, HB6.out.output, HB6.out.size, fun j hj hn => HB6.out.block j (by omega)⟩).then (Sans.of_set _ _ _ (.inl rfl))
            have HM7 : Hid (MadeG w.heap.size ⟨(N : Int), lanes, room', queue, rounds, every, bag, start, ea0, en0, ec0, wa', wn, wc', some ⟨b, 0, none⟩, N, nc⟩ [] ws (Route.upd f1 rs N N 0) vs gs (w6.setCell ⟨g, 1, none⟩ (.slice a6 (k + 1) c6))) := HM5.out.keep SG7 (fun gi hgi => by have := HLow.out gi hgi; omega) (fun j e => by have := HAll.out.1 j e; omega) (fun j e => by have := HAll.out.2.1 j e; omega) (fun j e => by have := HAll.out.2.2 j e; omega)
            have HX7 : Hid (Bx (w6.setCell ⟨g, 1, none⟩ (.slice a6 (k + 1) c6)) g ⟨(N : Int), lanes, room', queue, rounds, every, bag, start, a6, (k + 1), c6, wa', wn, wc', some ⟨b, 0, none⟩, N, nc⟩) := HX6.out.setE a6 (k + 1) c6
            have HE7 : Hid ((w6.setCell ⟨g, 1, none⟩ (.slice a6 (k + 1) c6)).ownsRow W.heap.size 31 2 (.slice a6 (k + 1) c6) (Route.ringE N).length (pcells (Route.ringE N))) := owns_sans HO6.out (Sans.of_set (F := fun j => j = g) w6 ⟨g, 1, none⟩ (.slice a6 (k + 1) c6) rfl) (fun j hj e => by omega)
            have HB7 : Hid (Below w.heap.size w (w6.setCell ⟨g, 1, none⟩ (.slice a6 (k + 1) c6))) := HB5.out.trans (SG7.below (B := w.heap.size) (by omega) (fun j e => by omega))
            clear SG7 HM5 HX5 HE5 HB5 HX6 HO6 HB6 hc1 q1 f6
            generalize World.setCell _ _ _ = w7 at HM7 HX7 HE7 HB7 ⊢
            obtain ⟨rs2, hrs2⟩ : ∃ rs2, Route.upd f1 rs N N 0 = rs2 := ⟨_, rfl⟩
            have HRs2 : Hid (Route.upd f1 rs N N 0 = rs2) := hrs2
            have HRl2 : Hid (rs2.length = N ∧ ∀ i, i < N → (rs2.getD i []).length = N) := by
              show _ ∧ _
              rw [← hrs2]
              exact ⟨Route.upd_len _ _ _ _ _, fun i hi => Route.upd_row_len _ _ _ _ _ hi⟩
            rw [hrs2] at HM7
            clear hrs2
            obtain ⟨f2, hf2⟩ : ∃ f : Nat → Nat → Int, f = fun a _ => (((a + 1) % N : Nat) : Int) := ⟨_, rfl⟩
            have HF2 : Hid (f2 = fun a _ => (((a + 1) % N : Nat) : Int)) := hf2
            have HM8 : Hid (MadeG w.heap.size ⟨(N : Int), lanes, room', queue, rounds, every, bag, start, ea0, en0, ec0, wa', wn, wc', some ⟨b, 0, none⟩, N, nc⟩ [] ws (Route.upd f2 rs2 N 0 0) vs gs w7) := by
              show MadeG _ _ _ _ _ _ _ _
              rw [Route.upd_zero f2 HRl2.out.1 HRl2.out.2]
              exact HM7.out
            clear hf2
            go_wp2_with fail
            go_loopw [13, 14] (fun x _ wr => ∃ v : Nat, v ≤ N ∧ x = .int .i64 v ∧ MadeG w.heap.size ⟨(N : Int), lanes, room', queue, rounds, every, bag, start, ea0, en0, ec0, wa', wn, wc', some ⟨b, 0, none⟩, N, nc⟩ [] ws (Route.upd f2 rs2 N v 0) vs gs wr ∧ Bx wr g ⟨(N : Int), lanes, room', queue, rounds, every, bag, start, a6, (k + 1), c6, wa', wn, wc', some ⟨b, 0, none⟩, N, nc⟩ ∧ wr.ownsRow W.heap.size 31 2 (.slice a6 (k + 1) c6) (Route.ringE N).length (pcells (Route.ringE N)) ∧ Below w.heap.size w wr) (fun x _ _ => N - (intOf x).toNat)
            case atStart => exact ⟨0, Nat.zero_le _, rfl, HM8.out, HX7.out, HE7.out, HB7.out⟩
            case round =>
              obtain ⟨v, hv, rfl, hM, hX, hE, hBB⟩ := hrel
              have HM4 : Hid (MadeG w.heap.size ⟨(N : Int), lanes, room', queue, rounds, every, bag, start, ea0, en0, ec0, wa', wn, wc', some ⟨b, 0, none⟩, N, nc⟩ [] ws (Route.upd f2 rs2 N v 0) vs gs wr) := hM
              have HX4 : Hid (Bx wr g ⟨(N : Int), lanes, room', queue, rounds, every, bag, start, a6, (k + 1), c6, wa', wn, wc', some ⟨b, 0, none⟩, N, nc⟩) := hX
              have HE4 : Hid (wr.ownsRow W.heap.size 31 2 (.slice a6 (k + 1) c6) (Route.ringE N).length (pcells (Route.ringE N))) := hE
              have HB4 : Hid (Below w.heap.size w wr) := hBB
              clear hM hX hE hBB
              by_cases hvN : v < N
              · have hvI : (v : Int) < (N : Int) := by omega
                go_wp2_with fail
                go_loopw [14] (fun x wr => ∃ u : Nat, u ≤ N ∧ x = .int .i64 u ∧ MadeG w.heap.size ⟨(N : Int), lanes, room', queue, rounds, every, bag, start, ea0, en0, ec0, wa', wn, wc', some ⟨b, 0, none⟩, N, nc⟩ [] ws (Route.upd f2 rs2 N v u) vs gs wr ∧ Bx wr g ⟨(N : Int), lanes, room', queue, rounds, every, bag, start, a6, (k + 1), c6, wa', wn, wc', some ⟨b, 0, none⟩, N, nc⟩ ∧ wr.ownsRow W.heap.size 31 2 (.slice a6 (k + 1) c6) (Route.ringE N).length (pcells (Route.ringE N)) ∧ Below w.heap.size w wr) (fun x _ => N - (intOf x).toNat)
                case atStart => exact ⟨0, Nat.zero_le _, rfl, HM4.out, HX4.out, HE4.out, HB4.out⟩
                case round =>
                  obtain ⟨u, hu, rfl, hM, hX, hE, hBB⟩ := hrel
                  have HM5 : Hid (MadeG w.heap.size ⟨(N : Int), lanes, room', queue, rounds, every, bag, start, ea0, en0, ec0, wa', wn, wc', some ⟨b, 0, none⟩, N, nc⟩ [] ws (Route.upd f2 rs2 N v u) vs gs wr) := hM
                  have HX5 : Hid (Bx wr g ⟨(N : Int), lanes, room', queue, rounds, every, bag, start, a6, (k + 1), c6, wa', wn, wc', some ⟨b, 0, none⟩, N, nc⟩) := hX
                  have HE5 : Hid (wr.ownsRow W.heap.size 31 2 (.slice a6 (k + 1) c6) (Route.ringE N).length (pcells (Route.ringE N))) := hE
                  have HB5 : Hid (Below w.heap.size w wr) := hBB
                  have hbs := hBB.size
                  have x10 := hX.x.c10
                  simp only at x10
                  obtain ⟨b', gi, vc', cap, e1, e2, e3, hc1, hc2, hbg, hgm, hc4, cr, cc, cf, hst⟩ := hM.store (t := v) (by rw [Route.upd_len]; exact hvN)
                  simp only at e1 e2 e3
                  cases e1
                  have hgB : gi < g := HLow.out gi hgm
                  have hgW0 : w.heap.size ≤ gi := HHigh.out gi hgm
                  rw [Route.upd_row_len f2 _ N v u hvN] at cr cc
                  clear e2 e3 hM hX hE hBB hgm
                  by_cases huN : u < N
                  · have huI : (u : Int) < (N : Int) := by omega
                    have ccu := cc u huN
                    have cfu := cf u
                    obtain ⟨z0, hz0⟩ : ∃ z, ((Route.upd f2 rs2 N v u).getD v []).getD u 0 = z := ⟨_, rfl⟩
                    rw [hz0] at ccu
                    clear hz0 cc cf
                    by_cases hvu : v = u
                    · subst hvu
                      have HE6 : Hid (Route.upd f2 rs2 N v (v + 1) = Route.upd f2 rs2 N v v) := Route.upd_miss f2 _ N v
                      clear hst ccu cfu
                      go_wp2_with fail
                      go_roundw
                      case rel =>
                        have R1 := HM5.out
                        rw [← HE6.out] at R1
                        first | exact ⟨v + 1, by omega, by go_num, R1, HX5.out, HE5.out, HB5.out⟩ | ((repeat apply Exists.intro); exact ⟨⟨v + 1, by omega, by go_num, R1, HX5.out, HE5.out, HB5.out⟩, rfl⟩)
                      case measure => simp [intOf]; omega
                    · obtain ⟨z, hz⟩ : ∃ z, f2 v u = z := ⟨_, rfl⟩
                      have hst' := hst u (f2 v u)
                      rw [Route.upd_hit f2 _ hvN huN hvu, hz] at hst'
                      have HSt : Hid (MadeG w.heap.size ⟨(N : Int), lanes, room', queue, rounds, every, bag, start, ea0, en0, ec0, wa', wn, wc', some ⟨b, 0, none⟩, N, nc⟩ [] ws (Route.upd f2 rs2 N v (u + 1)) vs gs (wr.setCell ⟨gi, u, none⟩ (.int .i64 z)).drew) := hst'.sans (F := fun _ => False) (Sans.drew _) (fun _ _ e => e)
                      have HFin : Hid (Bx (wr.setCell ⟨gi, u, none⟩ (.int .i64 z)).drew g ⟨(N : Int), lanes, room', queue, rounds, every, bag, start, a6, (k + 1), c6, wa', wn, wc', some ⟨b, 0, none⟩, N, nc⟩ ∧ (wr.setCell ⟨gi, u, none⟩ (.int .i64 z)).drew.ownsRow W.heap.size 31 2 (.slice a6 (k + 1) c6) (Route.ringE N).length (pcells (Route.ringE N)) ∧ Below w.heap.size w (wr.setCell ⟨gi, u, none⟩ (.int .i64 z)).drew) := by
                        have SG : Sans (fun i => i = gi) wr (wr.setCell ⟨gi, u, none⟩ (.int .i64 z)).drew := (Sans.of_set (F := fun i => i = gi) wr ⟨gi, u, none⟩ (.int .i64 z) rfl).then (Sans.drew _)
                        exact ⟨HX5.out.sans SG (by omega), owns_sans HE5.out SG (fun j hj e => by omega), HB5.out.trans (SG.below (B := w.heap.size) hbs (fun j e => by omega))⟩
                      have g1 : ((v : Int) != (u : Int)) = true := by simp; omega
                      have g2 : (v != u) = true := by simpa using hvu
                      have hzv : ((v : Int) + 1) % (N : Int) = z := by have e := congrFun (congrFun HF2.out v) u; rw [hz] at e; rw [e]; rfl
                      have hzt : ((v : Int) + 1).tmod (N : Int) = z := by rw [Int.tmod_eq_emod_of_nonneg (by omega)]; exact hzv
                      have hw1 : IntKind.i64.wrap ((v : Int) + 1) = (v : Int) + 1 := by simp only [IntKind.wrap_i64]; omega
                      have hN0 : N ≠ 0 := by omega
                      have hN0b : ((N : Int) == 0) = false := by simp; omega
                      clear hst hst' hz hvu
                      go_wp2_with fail
                      go_region
                      all_goals go_wp2_with fail
                      all_goals go_roundw
                      all_goals first | (simp [intOf]; omega) | exact ⟨u + 1, by omega, by go_num, HSt.out, HFin.out.1, HFin.out.2.1, HFin.out.2.2⟩ | ((repeat apply Exists.intro); exact ⟨⟨u + 1, by omega, by go_num, HSt.out, HFin.out.1, HFin.out.2.1, HFin.out.2.2⟩, rfl⟩)
                  · have huI : ¬ (u : Int) < (N : Int) := by omega
                    have HuN : Hid (u = N) := by show _ = _; omega
                    have HE6 : Hid (Route.upd f2 rs2 N v N = Route.upd f2 rs2 N (v + 1) 0) := Route.upd_row f2 _ N v
                    clear hst cc cf huN
                    go_wp2_with fail
                    go_roundw
                    case rel =>
                      have R1 := HM5.out
                      rw [HuN.out, HE6.out] at R1
                      first | exact ⟨v + 1, by omega, by go_num, R1, HX5.out, HE5.out, HB5.out⟩ | ((repeat apply Exists.intro); exact ⟨⟨v + 1, by omega, by go_num, R1, HX5.out, HE5.out, HB5.out⟩, rfl⟩)
                    case measure => simp [intOf]; omega
              · have hvI : ¬ (v : Int) < (N : Int) := by omega
                have HvN2 : Hid (v = N) := by show _ = _; omega
                clear hvN
                have hUC : Route.upd f2 rs2 N v 0 = Route.ringN N := by rw [HvN2.out, ← HRs2.out, ← HRs.out, HF2.out]; exact Route.upd_ring_chain N f1
                have HMk : Hid (MkN w.heap.size ⟨(N : Int), lanes, room', queue, rounds, every, bag, start, a6, (k + 1), c6, wa', wn, wc', some ⟨b, 0, none⟩, N, nc⟩ nodes room more (Route.ringE N) (Route.ringN N) wr) := by
                  have h := HM4.out.edged HE4.out (by omega) (fun gi hgi => by have := HLow.out gi hgi; omega)
                  rw [hUC] at h
                  exact ⟨HNum.out, by rw [HWs.out]; exact h⟩
                obtain ⟨ci1, _, _⟩ := Route.closed_i64 h3N hN6
                obtain ⟨cf1, cf2⟩ := Route.ring_bad h3N hN6
                have HPc : Hid (PlN wr ⟨(N : Int), lanes, room', queue, rounds, every, bag, start, a6, (k + 1), c6, wa', wn, wc', some ⟨b, 0, none⟩, N, nc⟩ (Route.ringE N) (Plan.mkW more (Plan.mkL more)) (Route.ringN N)) := HMk.out.pln (by have := HRe.out; omega) (by rw [(Route.ringN_len N).1]; omega) (fun x hx => by have := ci1 x hx; unfold I64; omega) (fun r hr x hx => by have := HI3.out r hr x hx; unfold I64; omega)
                have HMay : Hid (Plan.may (PV.num ⟨(N : Int), lanes, room', queue, rounds, every, bag, start, a6, (k + 1), c6, wa', wn, wc', some ⟨b, 0, none⟩, N, nc⟩) (Route.ringE N) (Plan.mkW more (Plan.mkL more)) ((Route.ringN N).map List.length) = true) := mk_may_rows HNum.out (by rw [HNe.out]; exact cf2) (by rw [HNe.out]; exact (Route.ringN_len N).1) (by rw [HNe.out]; exact (Route.ringN_len N).2)
                have HBad : Hid (Route.Bad (N : Int) (Route.ringE N) (Route.ringN N)) := cf1
                clear ci1 cf1 cf2 hUC HMk
                go_wp2_with fail
                refine (rknown_any S _).mono ?_
                rintro e8 w8 ⟨rfl, hB8⟩
                have HPd : Hid (PlN w8 ⟨(N : Int), lanes, room', queue, rounds, every, bag, start, a6, (k + 1), c6, wa', wn, wc', some ⟨b, 0, none⟩, N, nc⟩ (Route.ringE N) (Plan.mkW more (Plan.mkL more)) (Route.ringN N)) := HPc.out.below hB8
                have HXd : Hid (Bxd w8 g ⟨(N : Int), lanes, room', queue, rounds, every, bag, start, a6, (k + 1), c6, wa', wn, wc', some ⟨b, 0, none⟩, N, nc⟩) := HX4.out.x.below hB8
                have HBd : Hid (Below w.heap.size w w8) := later HB4.out hB8
                clear hB8
                obtain ⟨y0, y1, y2, y3, y4, y5, y6, y7, y8, y9, y10⟩ := HXd.out
                simp only at y0 y1 y2 y3 y4 y5 y6 y7 y8 y9 y10
                go_wp2_with fail
                refine (S.check' HPd.out HMay.out 140 (.inr (.inl ⟨rfl, HBad.out, rfl⟩))).mono ?_
                rintro e9 w9 ⟨rfl, hB9⟩
                have HB9 : Hid (Below w.heap.size w w9) := later HBd.out hB9
                clear hB9 y0 y1 y2 y3 y4 y5 y6 y7 y8 y9 y10
                go_wp2_with fail
                go_ret
                exact ⟨rfl, HB9.out⟩
end Go.Proofs.Ytphaaolnmbadcaa
