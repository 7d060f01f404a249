/-
  The laws' helper ring (package shunterlaw14): three nodes in a ring. Conditions: none.
-/
import Derived.Test.YtphaaolnmbadcaaRouteSpec
import Derived.Deep.DeepCutAuto
namespace Go.Proofs.Ytphaaolnmbadcaa
open Go.ChangeShapes Go.WideShapes Go.ChangeAt Go.RowKit
set_option linter.unusedVariables false

theorem lay11_bx {w : World} {R : Nat} {q : PV} (h : Bx w R q) (p : PV) : Bx (lay11 w R p) R p := by
  refine ⟨lay11_bxd h p, fun k => ?_⟩
  unfold lay11
  simp only [World.frozen?_setCell]
  exact h.f k
/-- a plan all of whose rows are the call's own; gs: the blocks of the rows of ways -/
structure MadeG (base : Nat) (p : PV) (es : List (Int × Int)) (ws : List Int) (rs : List (List Int)) (vs : List Value) (gs : List Nat) (w : World) : Prop where
  he : w.ownsRow base 31 2 (.slice p.ea p.en p.ec) es.length (pcells es)
  hw : w.ownsRow base 3 1 (.slice p.wa p.wn p.wc) ws.length (zcells ws)
  rw : Rw w base (.slice p.na p.nn p.nc) rs.length rs vs gs
  hd : ∀ g ∈ gs, (Value.slice p.ea p.en p.ec).ownBlock ≠ some g ∧ (Value.slice p.wa p.wn p.wc).ownBlock ≠ some g
theorem Made.g {base : Nat} {p : PV} {es : List (Int × Int)} {ws : List Int} {rs : List (List Int)} {w : World} (h : Made base p es ws rs w) : ∃ vs gs, MadeG base p es ws rs vs gs w := by
  obtain ⟨vs, gs, hv, hd⟩ := h.hn
  exact ⟨vs, gs, h.he, h.hw, hv, hd⟩
theorem MadeG.made {base : Nat} {p : PV} {es : List (Int × Int)} {ws : List Int} {rs : List (List Int)} {vs : List Value} {gs : List Nat} {w : World} (h : MadeG base p es ws rs vs gs w) : Made base p es ws rs w := ⟨h.he, h.hw, vs, gs, h.rw, h.hd⟩
theorem MadeG.sans {F : Nat → Prop} {base : Nat} {p : PV} {es : List (Int × Int)} {ws : List Int} {rs : List (List Int)} {vs : List Value} {gs : List Nat} {w w' : World} (h : MadeG base p es ws rs vs gs w) (s : Sans F w w') (hF : ∀ j, base ≤ j → ¬ F j) : MadeG base p es ws rs vs gs w' := ⟨owns_sans h.he s hF, owns_sans h.hw s hF, h.rw.sans s hF, h.hd⟩
/-- a store into a row of ways -/
theorem MadeG.store {base : Nat} {p : PV} {es : List (Int × Int)} {ws : List Int} {rs : List (List Int)} {vs : List Value} {gs : List Nat} {w : World} (h : MadeG base p es ws rs vs gs w) {t : Nat} (ht : t < rs.length) :
    ∃ b g vc cap, p.na = some ⟨b, 0, none⟩ ∧ p.nn = rs.length ∧ p.nc = vc ∧ base ≤ b ∧ b < w.heap.size ∧ b ≠ g ∧ g ∈ gs ∧ g < w.heap.size ∧ w.cell? ⟨b, t, none⟩ = some (.slice (some ⟨g, 0, none⟩) (rs.getD t []).length cap) ∧ (∀ j, j < (rs.getD t []).length → w.cell? ⟨g, j, none⟩ = some (.int .i64 ((rs.getD t []).getD j 0))) ∧ (∀ j, w.frozen? ⟨g, j, none⟩ = false) ∧ ∀ (j : Nat) (z : Int), MadeG base p es ws (rs.set t ((rs.getD t []).set j z)) vs gs (w.setCell ⟨g, j, none⟩ (.int .i64 z)) := by
  obtain ⟨b, vc, cap, e, hb, hb2, hne, c1, c2, c3, hg⟩ := h.rw.at ht
  simp only [Value.slice.injEq] at e
  obtain ⟨e1, e2, e3⟩ := e
  have hm := h.rw.mem ht
  have hl := h.rw.low _ hm
  refine ⟨b, gs.getD t 0, vc, cap, e1, e2, e3, hb, hb2, hne, hm, hl, c1, c2, c3, fun j z => ?_⟩
  have s : Sans (fun i => i = gs.getD t 0) w (w.setCell ⟨gs.getD t 0, j, none⟩ (.int .i64 z)) := Sans.of_set _ _ _ rfl
  refine ⟨owns_s1 h.he s (fun i ei e => (h.hd _ hm).1 (by rw [ei, e])), owns_s1 h.hw s (fun i ei e => (h.hd _ hm).2 (by rw [ei, e])), ?_, h.hd⟩
  rw [List.length_set]
  exact h.rw.store ht j z
set_option maxHeartbeats 8000000 in
set_option maxRecDepth 100000 in
theorem ring_any (w : World) (on : Bool) :
    Calls Try.prog 20 #[.bool on] w fun e w' => ∃ p : PV, e = .returned p.val ∧ MkN w.heap.size p 1 0 0 (Plan.full 7 3) (if on then Route.ring3 else Route.mkRows 3 []) w' ∧ Below w.heap.size w w' := by
  have HR0 : Hid (Bx (w.alloc pz.obj) w.heap.size pz) := bx_new w pz
  have HB0 : Hid (Below w.heap.size w (w.alloc pz.obj)) := fresh _ _
  have hs0 : (w.alloc pz.obj).heap.size = w.heap.size + 1 := by simp
  simp only [PV.obj, pz] at HR0 HB0 hs0
  go_enter Try.func20, Try.ntmps20
  go_upto_region 1 with fail
  generalize w.alloc _ = W0 at HR0 HB0 hs0 ⊢
  go_wp2_with fail
  refine (makeN_is 1 0 0 7 (by omega) (by omega) (by omega) (by omega) (oct0 W0)).mono ?_
  rintro e w1 ⟨p, rfl, hM, _, _, hB1⟩
  have HM : Hid (MkN W0.heap.size p 1 0 0 (Plan.full 7 3) (Route.mkRows 3 []) w1) := hM
  have HB1 : Hid (Below W0.heap.size W0 w1) := hB1
  obtain ⟨N0, lanes, room, queue, rounds, every, bag, start, ea, en, ec, wa, wn, wc, na, nn, nc⟩ := p
  obtain ⟨vs, gs, hMg⟩ := hM.made.g
  have HLow : Hid (∀ g ∈ gs, g < w1.heap.size) := hMg.rw.low
  have HHigh : Hid (∀ g ∈ gs, W0.heap.size ≤ g) := hMg.rw.high
  obtain ⟨b, g0, vc, cap0, e1, e2, e3, hb1, hb2, _, _, hg2, _⟩ := hMg.store (t := 0) (by rw [Route.mkRows_len]; decide)
  simp only at e1 e2 e3
  subst e1 e3
  obtain rfl : nn = 3 := by rw [e2, Route.mkRows_len]; rfl
  have HX : Hid (Bx (w1.alloc (PV.obj ⟨N0, lanes, room, queue, rounds, every, bag, start, ea, en, ec, wa, wn, wc, some ⟨b, 0, none⟩, 3, nc⟩)) w1.heap.size ⟨N0, lanes, room, queue, rounds, every, bag, start, ea, en, ec, wa, wn, wc, some ⟨b, 0, none⟩, 3, nc⟩) := bx_new w1 _
  have HMW : Hid (MkN W0.heap.size ⟨N0, lanes, room, queue, rounds, every, bag, start, ea, en, ec, wa, wn, wc, some ⟨b, 0, none⟩, 3, nc⟩ 1 0 0 (Plan.full 7 3) (Route.mkRows 3 []) (w1.alloc (PV.obj ⟨N0, lanes, room, queue, rounds, every, bag, start, ea, en, ec, wa, wn, wc, some ⟨b, 0, none⟩, 3, nc⟩))) := hM.below (fresh _ _)
  have HRW : Hid (Bx (w1.alloc (PV.obj ⟨N0, lanes, room, queue, rounds, every, bag, start, ea, en, ec, wa, wn, wc, some ⟨b, 0, none⟩, 3, nc⟩)) w.heap.size ⟨0, 0, 0, 0, 0, 0, 0, 0, none, 0, 0, none, 0, 0, none, 0, 0⟩) := (HR0.out.below hB1 (by omega)).below (fresh _ _) (by have := hB1.size; omega)
  have HBW : Hid (Below w.heap.size w (w1.alloc (PV.obj ⟨N0, lanes, room, queue, rounds, every, bag, start, ea, en, ec, wa, wn, wc, some ⟨b, 0, none⟩, 3, nc⟩))) := (HB0.out.trans (hB1.mono (by omega))).trans ((fresh _ _).mono (by have := hB1.size; omega))
  have hB : w.heap.size < w1.heap.size := by have := hB1.size; omega
  have hs1 := hB1.size
  have HMG : Hid (MadeG W0.heap.size ⟨N0, lanes, room, queue, rounds, every, bag, start, ea, en, ec, wa, wn, wc, some ⟨b, 0, none⟩, 3, nc⟩ (Plan.full 7 3) (Plan.mkW 0 (Plan.mkL 0)) (Route.mkRows 3 []) vs gs (w1.alloc (PV.obj ⟨N0, lanes, room, queue, rounds, every, bag, start, ea, en, ec, wa, wn, wc, some ⟨b, 0, none⟩, 3, nc⟩))) := hMg.sans (F := fun _ => False) (Sans.of_below (fresh _ _)) (fun _ _ e => e)
  clear hM hB1 HM HB1 HR0 HB0 e2 hMg
  simp only [PV.obj] at HX HMW HRW HBW HMG
  simp only [PV.val]
  go_upto_region 2 with fail
  generalize w1.alloc _ = W at HX HMW HRW HBW HMG ⊢
  obtain ⟨B, hBe⟩ : ∃ B, w1.heap.size = B := ⟨_, rfl⟩
  rw [hBe] at HX hB hb2 hg2 hs1 HLow ⊢
  clear hBe
  have x10 := HX.out.x.c10
  simp only at x10
  cases on with
  | false =>
    clear x10
    go_wp2_with fail
    go_loopw [4, 5] (fun x _ wr => x = .int .i64 0 ∧ wr = W) (fun _ _ _ => 0)
    case atStart => exact ⟨rfl, rfl⟩
    case round =>
      obtain ⟨rfl, rfl⟩ := hrel
      obtain ⟨x0, x1, x2, x3, x4, x5, x6, x7, x8, x9, x10⟩ := HX.out.x
      obtain ⟨y0, y1, y2, y3, y4, y5, y6, y7, y8, y9, y10⟩ := HRW.out.x
      have f0 := HRW.out.f
      simp only at x0 x1 x2 x3 x4 x5 x6 x7 x8 x9 x10 y0 y1 y2 y3 y4 y5 y6 y7 y8 y9 y10
      go_wp2_with fail
      have HF : Hid (Bxd (lay11 wr w.heap.size ⟨N0, lanes, room, queue, rounds, every, bag, start, ea, en, ec, wa, wn, wc, some ⟨b, 0, none⟩, 3, nc⟩) w.heap.size ⟨N0, lanes, room, queue, rounds, every, bag, start, ea, en, ec, wa, wn, wc, some ⟨b, 0, none⟩, 3, nc⟩ ∧ Sans (fun j => j = w.heap.size) wr (lay11 wr w.heap.size ⟨N0, lanes, room, queue, rounds, every, bag, start, ea, en, ec, wa, wn, wc, some ⟨b, 0, none⟩, 3, nc⟩)) := ⟨lay11_bxd HRW.out _, lay11_sans _ _ _⟩
      unfold lay11 at HF
      simp only at HF
      clear x0 x1 x2 x3 x4 x5 x6 x7 x8 x9 x10 y0 y1 y2 y3 y4 y5 y6 y7 y8 y9 y10 f0
      generalize World.setCell _ ⟨w.heap.size, 10, none⟩ _ = Wf at HF ⊢
      obtain ⟨x0, x1, x2, x3, x4, x5, x6, x7, x8, x9, x10⟩ := HF.out.1
      simp only at x0 x1 x2 x3 x4 x5 x6 x7 x8 x9 x10
      refine bodyPost_ret (v := PV.val ⟨N0, lanes, room, queue, rounds, every, bag, start, ea, en, ec, wa, wn, wc, some ⟨b, 0, none⟩, 3, nc⟩) (by simp [results, Try.f20, go_sem, x0, x1, x2, x3, x4, x5, x6, x7, x8, x9, x10, PV.val]) rfl ?_
      refine ⟨⟨N0, lanes, room, queue, rounds, every, bag, start, ea, en, ec, wa, wn, wc, some ⟨b, 0, none⟩, 3, nc⟩, rfl, ⟨HMW.out.num, (HMW.out.made.sans HF.out.2 (fun j hj e => by omega)).mono (by omega)⟩, HBW.out.trans (HF.out.2.below (B := w.heap.size) (by have := HBW.out.size; omega) (fun j e => by omega))⟩
  | true =>
    clear x10
    obtain ⟨f, hf⟩ : ∃ f : Nat → Nat → Int, f = fun a _ => (((a + 1) % 3 : Nat) : Int) := ⟨_, rfl⟩
    have HFf : Hid (f = fun a _ => (((a + 1) % 3 : Nat) : Int)) := hf
    clear hf
    have HM0 : Hid (MadeG W0.heap.size ⟨N0, lanes, room, queue, rounds, every, bag, start, ea, en, ec, wa, wn, wc, some ⟨b, 0, none⟩, 3, nc⟩ (Plan.full 7 3) (Plan.mkW 0 (Plan.mkL 0)) (Route.upd f (Route.mkRows 3 []) 3 0 0) vs gs W) := by
      have h := HMG.out
      show MadeG _ _ _ _ _ _ _ _
      rw [Route.upd_zero f (Route.mkRows_len 3 []) (fun i hi => Route.mkRows_row [] hi)]
      exact h
    go_wp2_with fail
    go_loopw [4, 5] (fun x _ wr => ∃ v : Nat, v ≤ 3 ∧ x = .int .i64 v ∧ MadeG W0.heap.size ⟨N0, lanes, room, queue, rounds, every, bag, start, ea, en, ec, wa, wn, wc, some ⟨b, 0, none⟩, 3, nc⟩ (Plan.full 7 3) (Plan.mkW 0 (Plan.mkL 0)) (Route.upd f (Route.mkRows 3 []) 3 v 0) vs gs wr ∧ Bx wr B ⟨N0, lanes, room, queue, rounds, every, bag, start, ea, en, ec, wa, wn, wc, some ⟨b, 0, none⟩, 3, nc⟩ ∧ Bx wr w.heap.size ⟨0, 0, 0, 0, 0, 0, 0, 0, none, 0, 0, none, 0, 0, none, 0, 0⟩ ∧ Below w.heap.size w wr) (fun x _ _ => 3 - (intOf x).toNat)
    case atStart => exact ⟨0, by omega, rfl, HM0.out, HX.out, HRW.out, HBW.out⟩
    case round =>
      obtain ⟨v, hv, rfl, hM, hX, hR, hBB⟩ := hrel
      have HM1 : Hid (MadeG W0.heap.size ⟨N0, lanes, room, queue, rounds, every, bag, start, ea, en, ec, wa, wn, wc, some ⟨b, 0, none⟩, 3, nc⟩ (Plan.full 7 3) (Plan.mkW 0 (Plan.mkL 0)) (Route.upd f (Route.mkRows 3 []) 3 v 0) vs gs wr) := hM
      have HX1 : Hid (Bx wr B ⟨N0, lanes, room, queue, rounds, every, bag, start, ea, en, ec, wa, wn, wc, some ⟨b, 0, none⟩, 3, nc⟩) := hX
      have HR1 : Hid (Bx wr w.heap.size ⟨0, 0, 0, 0, 0, 0, 0, 0, none, 0, 0, none, 0, 0, none, 0, 0⟩) := hR
      have HB1 : Hid (Below w.heap.size w wr) := hBB
      have x10 := hX.x.c10
      simp only at x10
      clear hM hX hR hBB
      by_cases hv3 : v < 3
      · have hvI : (v : Int) < 3 := by omega
        go_wp2_with fail
        clear x10
        go_loopw [5] (fun x wr => ∃ u : Nat, u ≤ 3 ∧ x = .int .i64 u ∧ MadeG W0.heap.size ⟨N0, lanes, room, queue, rounds, every, bag, start, ea, en, ec, wa, wn, wc, some ⟨b, 0, none⟩, 3, nc⟩ (Plan.full 7 3) (Plan.mkW 0 (Plan.mkL 0)) (Route.upd f (Route.mkRows 3 []) 3 v u) vs gs wr ∧ Bx wr B ⟨N0, lanes, room, queue, rounds, every, bag, start, ea, en, ec, wa, wn, wc, some ⟨b, 0, none⟩, 3, nc⟩ ∧ Bx wr w.heap.size ⟨0, 0, 0, 0, 0, 0, 0, 0, none, 0, 0, none, 0, 0, none, 0, 0⟩ ∧ Below w.heap.size w wr) (fun x _ => 3 - (intOf x).toNat)
        case atStart => exact ⟨0, by omega, rfl, HM1.out, HX1.out, HR1.out, HB1.out⟩
        case round =>
          obtain ⟨u, hu, rfl, hM, hX, hR, hBB⟩ := hrel
          have HM2 : Hid (MadeG W0.heap.size ⟨N0, lanes, room, queue, rounds, every, bag, start, ea, en, ec, wa, wn, wc, some ⟨b, 0, none⟩, 3, nc⟩ (Plan.full 7 3) (Plan.mkW 0 (Plan.mkL 0)) (Route.upd f (Route.mkRows 3 []) 3 v u) vs gs wr) := hM
          have HX2 : Hid (Bx wr B ⟨N0, lanes, room, queue, rounds, every, bag, start, ea, en, ec, wa, wn, wc, some ⟨b, 0, none⟩, 3, nc⟩) := hX
          have HR2 : Hid (Bx wr w.heap.size ⟨0, 0, 0, 0, 0, 0, 0, 0, none, 0, 0, none, 0, 0, none, 0, 0⟩) := hR
          have HB2 : Hid (Below w.heap.size w wr) := hBB
          have hbs := hBB.size
          have x10 := hX.x.c10
          simp only at x10
          obtain ⟨b', g, vc', cap, e1, e2, e3, hc1, hc2, hbg, hgm, hc4, cr, cc, cf, hst⟩ := hM.store (t := v) (by rw [Route.upd_len]; exact hv3)
          simp only at e1 e2 e3
          cases e1
          have hgB : g < B := HLow.out g hgm
          have hgW : W0.heap.size ≤ g := HHigh.out g hgm
          rw [Route.upd_row_len f _ 3 v u hv3] at cr cc
          clear e2 e3 hM hX hR hBB hgm
          by_cases hu3 : u < 3
          · have huI : (u : Int) < 3 := by omega
            have ccu := cc u hu3
            have cfu := cf u
            obtain ⟨z0, hz0⟩ : ∃ z, ((Route.upd f (Route.mkRows 3 []) 3 v u).getD v []).getD u 0 = z := ⟨_, rfl⟩
            rw [hz0] at ccu
            clear hz0 cc cf
            by_cases hvu : v = u
            · subst hvu
              have HE : Hid (Route.upd f (Route.mkRows 3 []) 3 v (v + 1) = Route.upd f (Route.mkRows 3 []) 3 v v) := Route.upd_miss f _ 3 v
              clear hst ccu cfu
              go_wp2_with fail
              go_roundw
              case rel =>
                have R1 := HM2.out
                rw [← HE.out] at R1
                first | exact ⟨v + 1, by omega, by go_num, R1, HX2.out, HR2.out, HB2.out⟩ | ((repeat apply Exists.intro); exact ⟨⟨v + 1, by omega, by go_num, R1, HX2.out, HR2.out, HB2.out⟩, rfl⟩)
              case measure => simp [intOf]; omega
            · have gv : ((v : Int) != (u : Int)) = true := by simp; omega
              have gv' : (v != u) = true := by simpa using hvu
              obtain ⟨z, hz⟩ : ∃ z, f v u = z := ⟨_, rfl⟩
              have hzv : ((v : Int) + 1) % 3 = z := by rw [← hz, HFf.out]; rfl
              have hst' := hst u (f v u)
              rw [Route.upd_hit f _ hv3 hu3 hvu, hz] at hst'
              have HSt : Hid (MadeG W0.heap.size ⟨N0, lanes, room, queue, rounds, every, bag, start, ea, en, ec, wa, wn, wc, some ⟨b, 0, none⟩, 3, nc⟩ (Plan.full 7 3) (Plan.mkW 0 (Plan.mkL 0)) (Route.upd f (Route.mkRows 3 []) 3 v (u + 1)) vs gs (wr.setCell ⟨g, u, none⟩ (.int .i64 z))) := hst'
              clear hst hst' hz
              go_wp2_with fail
              have SG : Sans (fun i => i = g) wr (wr.setCell ⟨g, u, none⟩ (.int .i64 z)) := Sans.of_set _ _ _ rfl
              have HX3 : Hid (Bx (wr.setCell ⟨g, u, none⟩ (.int .i64 z)) B ⟨N0, lanes, room, queue, rounds, every, bag, start, ea, en, ec, wa, wn, wc, some ⟨b, 0, none⟩, 3, nc⟩) := HX2.out.sans SG (by omega)
              have HR3 : Hid (Bx (wr.setCell ⟨g, u, none⟩ (.int .i64 z)) w.heap.size ⟨0, 0, 0, 0, 0, 0, 0, 0, none, 0, 0, none, 0, 0, none, 0, 0⟩) := HR2.out.sans SG (by omega)
              have HB3 : Hid (Below w.heap.size w (wr.setCell ⟨g, u, none⟩ (.int .i64 z))) := HB2.out.trans (SG.below (B := w.heap.size) hbs (fun j e => by omega))
              go_roundw
              case rel => first | exact ⟨u + 1, by omega, by go_num, HSt.out, HX3.out, HR3.out, HB3.out⟩ | ((repeat apply Exists.intro); exact ⟨⟨u + 1, by omega, by go_num, HSt.out, HX3.out, HR3.out, HB3.out⟩, rfl⟩)
              case measure => simp [intOf]; omega
          · obtain rfl : u = 3 := by omega
            have HE : Hid (Route.upd f (Route.mkRows 3 []) 3 v 3 = Route.upd f (Route.mkRows 3 []) 3 (v + 1) 0) := Route.upd_row f _ 3 v
            clear hst cc cf
            go_wp2_with fail
            go_roundw
            case rel =>
              have R1 := HM2.out
              rw [HE.out] at R1
              first | exact ⟨v + 1, by omega, by go_num, R1, HX2.out, HR2.out, HB2.out⟩ | ((repeat apply Exists.intro); exact ⟨⟨v + 1, by omega, by go_num, R1, HX2.out, HR2.out, HB2.out⟩, rfl⟩)
            case measure => simp [intOf]; omega
      · obtain rfl : v = 3 := by omega
        rw [HFf.out] at HM1
        clear x10
        obtain ⟨x0, x1, x2, x3, x4, x5, x6, x7, x8, x9, x10⟩ := HX1.out.x
        obtain ⟨y0, y1, y2, y3, y4, y5, y6, y7, y8, y9, y10⟩ := HR1.out.x
        have f0 := HR1.out.f
        simp only at x0 x1 x2 x3 x4 x5 x6 x7 x8 x9 x10 y0 y1 y2 y3 y4 y5 y6 y7 y8 y9 y10
        go_wp2_with fail
        have HF : Hid (Bxd (lay11 wr w.heap.size ⟨N0, lanes, room, queue, rounds, every, bag, start, ea, en, ec, wa, wn, wc, some ⟨b, 0, none⟩, 3, nc⟩) w.heap.size ⟨N0, lanes, room, queue, rounds, every, bag, start, ea, en, ec, wa, wn, wc, some ⟨b, 0, none⟩, 3, nc⟩ ∧ Sans (fun j => j = w.heap.size) wr (lay11 wr w.heap.size ⟨N0, lanes, room, queue, rounds, every, bag, start, ea, en, ec, wa, wn, wc, some ⟨b, 0, none⟩, 3, nc⟩)) := ⟨lay11_bxd HR1.out _, lay11_sans _ _ _⟩
        unfold lay11 at HF
        simp only at HF
        clear x0 x1 x2 x3 x4 x5 x6 x7 x8 x9 x10 y0 y1 y2 y3 y4 y5 y6 y7 y8 y9 y10 f0
        generalize World.setCell _ ⟨w.heap.size, 10, none⟩ _ = Wf at HF ⊢
        obtain ⟨x0, x1, x2, x3, x4, x5, x6, x7, x8, x9, x10⟩ := HF.out.1
        simp only at x0 x1 x2 x3 x4 x5 x6 x7 x8 x9 x10
        refine bodyPost_ret (v := PV.val ⟨N0, lanes, room, queue, rounds, every, bag, start, ea, en, ec, wa, wn, wc, some ⟨b, 0, none⟩, 3, nc⟩) (by simp [results, Try.f20, go_sem, x0, x1, x2, x3, x4, x5, x6, x7, x8, x9, x10, PV.val]) rfl ?_
        refine ⟨⟨N0, lanes, room, queue, rounds, every, bag, start, ea, en, ec, wa, wn, wc, some ⟨b, 0, none⟩, 3, nc⟩, rfl, ⟨HMW.out.num, ?_⟩, HB1.out.trans (HF.out.2.below (B := w.heap.size) (by have := HB1.out.size; omega) (fun j e => by omega))⟩
        have h := (HM1.out.sans HF.out.2 (fun j hj e => by omega)).made.mono (show w.heap.size ≤ W0.heap.size by omega)
        rw [Route.upd_ring 3, Route.ring3_is] at h
        exact h
end Go.Proofs.Ytphaaolnmbadcaa
