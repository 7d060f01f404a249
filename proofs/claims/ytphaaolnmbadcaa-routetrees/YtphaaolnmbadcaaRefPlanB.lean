/-
  The document's own plan (package shunterref12): Beside, Port. Conditions: none but that the plan's rows are led to.
-/
import Derived.Test.YtphaaolnmbadcaaRefPlanA
namespace Go.Proofs.Ytphaaolnmbadcaa
open Go.ChangeShapes Go.WideShapes Go.ChangeAt Go.RowKit
set_option linter.unusedVariables false

/-- a plan that lies in block b -/
structure Bxd (w : World) (b : Nat) (p : PV) : Prop where
  c0 : w.cell? ⟨b, 0, none⟩ = some (.int .i64 p.nodes)
  c1 : w.cell? ⟨b, 1, none⟩ = some (.slice p.ea p.en p.ec)
  c2 : w.cell? ⟨b, 2, none⟩ = some (.int .i64 p.lanes)
  c3 : w.cell? ⟨b, 3, none⟩ = some (.int .i64 p.room)
  c4 : w.cell? ⟨b, 4, none⟩ = some (.int .i64 p.queue)
  c5 : w.cell? ⟨b, 5, none⟩ = some (.int .i64 p.rounds)
  c6 : w.cell? ⟨b, 6, none⟩ = some (.int .i64 p.every)
  c7 : w.cell? ⟨b, 7, none⟩ = some (.int .i64 p.bag)
  c8 : w.cell? ⟨b, 8, none⟩ = some (.slice p.wa p.wn p.wc)
  c9 : w.cell? ⟨b, 9, none⟩ = some (.int .u16 p.start)
  c10 : w.cell? ⟨b, 10, none⟩ = some (.slice p.na p.nn p.nc)
/-- the plan, laid into a new block -/
def PV.obj (p : PV) : Obj := .cells #[.int .i64 p.nodes, .slice p.ea p.en p.ec, .int .i64 p.lanes, .int .i64 p.room, .int .i64 p.queue, .int .i64 p.rounds, .int .i64 p.every, .int .i64 p.bag, .slice p.wa p.wn p.wc, .int .u16 p.start, .slice p.na p.nn p.nc] 27
theorem bxd_new (w : World) (p : PV) : Bxd (w.alloc p.obj) w.heap.size p := by
  unfold PV.obj
  constructor <;> simp
theorem Bxd.below {w w' : World} {b : Nat} {p : PV} (h : Bxd w b p) (k : Below w.heap.size w w') : Bxd w' b p := by
  have hb : b < w.heap.size := cell_lt h.c0
  have e : ∀ o, w'.cell? ⟨b, o, none⟩ = w.cell? ⟨b, o, none⟩ := fun o => k.cell (p := ⟨b, o, none⟩) hb
  exact ⟨(e _).trans h.c0, (e _).trans h.c1, (e _).trans h.c2, (e _).trans h.c3, (e _).trans h.c4, (e _).trans h.c5, (e _).trans h.c6, (e _).trans h.c7, (e _).trans h.c8, (e _).trans h.c9, (e _).trans h.c10⟩
theorem owns_mono {w : World} {base base' n size : Nat} {e : TypeId} {v : Value} {xs : List Value} (h : w.ownsRow base e size v n xs) (hb : base' ≤ base) : w.ownsRow base' e size v n xs := by
  refine ⟨h.1, ?_⟩
  rcases h.2 with h2 | ⟨g, cp, cur, e, h3, r⟩
  · exact .inl h2
  · exact .inr ⟨g, cp, cur, e, by omega, r⟩
theorem take_pair {l : List (Int × Int)} {k : Nat} (h : k < l.length) : l.take (k + 1) = l.take k ++ [l.getD k (0, 0)] := by
  rw [List.take_succ_eq_append_getElem h, List.getD_eq_getElem?_getD, List.getElem?_eq_getElem h]
  rfl
namespace Plan
theorem bes_succ {es : List (Int × Int)} {k : Nat} (v : Int) (h : k < es.length) : bes (es.take (k + 1)) v = (rawE v (es.getD k (0, 0))).foldl lay (bes (es.take k) v) := by
  unfold bes
  rw [take_pair h, raw_snoc, List.foldl_append]
theorem rawE_a {v a b : Int} (h1 : a = v) (h2 : b ≠ v) : rawE v (a, b) = [b] := by
  unfold rawE
  rw [if_pos ⟨h1, h2⟩, if_neg (fun h => h2 h.1)]
  rfl
theorem rawE_b {v a b : Int} (h1 : b = v) (h2 : a ≠ v) : rawE v (a, b) = [a] := by
  unfold rawE
  rw [if_neg (fun h => h2 h.1), if_pos ⟨h1, h2⟩]
  rfl
theorem rawE_no {v a b : Int} (h1 : ¬ (a = v ∧ b ≠ v)) (h2 : ¬ (b = v ∧ a ≠ v)) : rawE v (a, b) = [] := by
  unfold rawE
  rw [if_neg h1, if_neg h2]
  rfl
end Plan
set_option maxHeartbeats 4000000 in
set_option maxRecDepth 100000 in
theorem rbeside_any {w : World} {p : PV} {es : List (Int × Int)} {ws : List Int} {ns : List Nat} (h : Pl w p es ws ns) (v : Int) :
    Calls Try.prog 64 #[p.val, .int .i64 v] w fun e w' => ∃ u, e = .returned u ∧ w'.ownsRow w.heap.size 3 1 u (Plan.bes es v).length (zcells (Plan.bes es v)) ∧ Below w.heap.size w w' := by
  have heb := h.eb
  have hen := h.he.1
  have HXn : Hid (Bxd (w.alloc p.obj) w.heap.size p) := bxd_new w p
  obtain ⟨nodes, lanes, room, queue, rounds, every, bag, start, ea, en, ec, wa, wn, wc, na, nn, nc⟩ := p
  simp only [PV.val, PV.obj] at heb hen HXn ⊢
  have HE : Hid (Pr w ea en es) := h.he
  clear h
  go_enter Try.func64, Try.ntmps64
  go_wp2_with fail
  have HX := HXn
  have HW : Hid (Below w.heap.size w (w.alloc (PV.obj ⟨nodes, lanes, room, queue, rounds, every, bag, start, ea, en, ec, wa, wn, wc, na, nn, nc⟩)) ∧ (w.alloc (PV.obj ⟨nodes, lanes, room, queue, rounds, every, bag, start, ea, en, ec, wa, wn, wc, na, nn, nc⟩)).heap.size = w.heap.size + 1) := ⟨fresh _ _, by simp⟩
  simp only [PV.obj] at HW
  clear HXn
  generalize w.alloc _ = W1 at HX HW ⊢
  go_loopw [5, 6, 7] (fun u i _ wr => ∃ k : Nat, k ≤ en ∧ i = .int .i64 k ∧ wr.ownsRow W1.heap.size 3 1 u (Plan.bes (es.take k) v).length (zcells (Plan.bes (es.take k) v)) ∧ Below W1.heap.size W1 wr) (fun _ i _ _ => en - (intOf i).toNat)
  case atStart => exact ⟨0, Nat.zero_le _, rfl, World.ownsRow_nil _ _ _ _, Below.refl _ _⟩
  case round =>
    obtain ⟨k, hk, rfl, hO, hB⟩ := hrel
    have HO : Hid (wr.ownsRow W1.heap.size 3 1 u5 (Plan.bes (es.take k) v).length (zcells (Plan.bes (es.take k) v))) := hO
    have HB : Hid (Below W1.heap.size W1 wr) := hB
    have hx := HX.out.below hB
    have hc1 := hx.c1
    simp only at hc1
    clear hO hB hx
    by_cases hkn : k < en
    · obtain ⟨b, off, ha, hcA, hcB⟩ := ((HE.out.below HW.out.1).below HB.out).at hkn
      have hbs := Plan.bes_succ v (show k < es.length by omega)
      obtain ⟨⟨A, B⟩, hy⟩ : ∃ y, es.getD k (0, 0) = y := ⟨_, rfl⟩
      rw [hy] at hcA hcB hbs
      simp only at hcA hcB
      subst ha
      have HS : Hid (Plan.bes (es.take (k + 1)) v = (Plan.rawE v (A, B)).foldl Plan.lay (Plan.bes (es.take k) v)) := hbs
      clear hbs hy
      have hsz := HB.out.size
      have hlen := Plan.bes_len (es.take k) v
      rw [List.length_take] at hlen
      obtain ⟨a5, cap5, e5, hz5, hn5, hm5, hnil5, _⟩ := zr_of_owns HO.out
      obtain ⟨n5, hn5'⟩ : ∃ n5, (Plan.bes (es.take k) v).length = n5 := ⟨_, rfl⟩
      rw [hn5'] at e5 hn5 hlen hz5
      subst e5
      have HZ5 : Hid (Zr wr a5 n5 (Plan.bes (es.take k) v)) := hz5
      have HN5 : Hid (n5 ≤ cap5 ∧ cap5 ≤ maxLen) := ⟨hn5, hm5⟩
      have HL5 : Hid ((Plan.bes (es.take k) v).length = n5) := hn5'
      clear hz5 hn5 hm5 hn5'
      have fin1 : ∀ (u : Int) (w' : World), (Plan.rawE v (A, B)) = [u] → ∀ x : Value, w'.ownsRow (wr.heap.size + 1) 3 1 x (Plan.lay (Plan.bes (es.take k) v) u).length (zcells (Plan.lay (Plan.bes (es.take k) v) u)) → w'.ownsRow W1.heap.size 3 1 x (Plan.bes (es.take (k + 1)) v).length (zcells (Plan.bes (es.take (k + 1)) v)) := by
        intro u w' hr x hx
        rw [HS.out, hr]
        exact owns_mono hx (by omega)
      have HF : Hid (∀ (u : Int) (w' : World), (Plan.rawE v (A, B)) = [u] → ∀ x : Value, w'.ownsRow (wr.heap.size + 1) 3 1 x (Plan.lay (Plan.bes (es.take k) v) u).length (zcells (Plan.lay (Plan.bes (es.take k) v) u)) → w'.ownsRow W1.heap.size 3 1 x (Plan.bes (es.take (k + 1)) v).length (zcells (Plan.bes (es.take (k + 1)) v))) := fin1
      clear fin1
      by_cases hA : A = v
      · by_cases hB : B = v
        · subst hA
          subst hB
          go_wp2_with fail
          go_roundw
          case rel => exact ⟨k + 1, by omega, by go_num, by
            rw [HS.out, Plan.rawE_no (fun h => h.2 rfl) (fun h => h.2 rfl)]
            exact owns_below HO.out (fresh _ _), HB.out.alloc hsz _⟩
          case measure => simp [intOf]; omega
        · subst hA
          have hB' : (B != A) = true := by simpa using hB
          have hB2 : (B == A) = false := by simpa using hB
          go_wp2_with (go_at_call 77; refine (lay_any B (HZ5.out.below (fresh _ _)) HN5.out hnil5 (by omega)).mono ?_; rintro e w2 ⟨v2, rfl, hown2, hBe⟩; have q0 : w2.cell? ⟨wr.heap.size, 0, none⟩ = some (.int .i64 A) := (hBe.cell (p := ⟨wr.heap.size, 0, none⟩) (by simp)).trans (by simp); have q1 : w2.cell? ⟨wr.heap.size, 1, none⟩ = some (.int .i64 B) := (hBe.cell (p := ⟨wr.heap.size, 1, none⟩) (by simp)).trans (by simp); have HBE : Hid (Below W1.heap.size W1 w2) := (HB.out.alloc hsz _).trans (hBe.mono (by simp; omega)); rw [World.size_alloc] at hown2; have HO2 : Hid (w2.ownsRow W1.heap.size 3 1 v2 (Plan.bes (es.take (k + 1)) A).length (zcells (Plan.bes (es.take (k + 1)) A))) := HF.out B w2 (Plan.rawE_a rfl hB) v2 hown2; clear hown2 hBe)
          go_roundw
          case rel => first | exact ⟨k + 1, by omega, by go_num, HO2.out, HBE.out⟩ | ((repeat apply Exists.intro); exact ⟨⟨k + 1, by omega, by go_num, HO2.out, HBE.out⟩, rfl⟩)
          case measure => simp [intOf]; omega
      · have hA' : (A == v) = false := by simpa using hA
        by_cases hB : B = v
        · subst hB
          have hA2 : (A != B) = true := by simpa using hA
          go_wp2_with (go_at_call 77; refine (lay_any A (HZ5.out.below (fresh _ _)) HN5.out hnil5 (by omega)).mono ?_; rintro e w2 ⟨v2, rfl, hown2, hBe⟩; have HBE : Hid (Below W1.heap.size W1 w2) := (HB.out.alloc hsz _).trans (hBe.mono (by simp; omega)); rw [World.size_alloc] at hown2; have HO2 : Hid (w2.ownsRow W1.heap.size 3 1 v2 (Plan.bes (es.take (k + 1)) B).length (zcells (Plan.bes (es.take (k + 1)) B))) := HF.out A w2 (Plan.rawE_b rfl hA) v2 hown2; clear hown2 hBe)
          go_roundw
          case rel => first | exact ⟨k + 1, by omega, by go_num, HO2.out, HBE.out⟩ | ((repeat apply Exists.intro); exact ⟨⟨k + 1, by omega, by go_num, HO2.out, HBE.out⟩, rfl⟩)
          case measure => simp [intOf]; omega
        · have hB' : (B == v) = false := by simpa using hB
          go_wp2_with fail
          go_roundw
          case rel => exact ⟨k + 1, by omega, by go_num, by
            rw [HS.out, Plan.rawE_no (fun h => hA h.1) (fun h => hB h.1)]
            exact owns_below HO.out (fresh _ _), HB.out.alloc hsz _⟩
          case measure => simp [intOf]; omega
    · obtain rfl : k = en := by omega
      go_wp2_with fail
      go_ret
      refine ⟨_, rfl, ?_, ?_⟩
      · have := HO.out
        rw [show es.take k = es from by rw [← hen]; exact List.take_length] at this
        exact owns_mono this (by have := HW.out.2; omega)
      · exact HW.out.1.trans (HB.out.mono (by have := HW.out.2; omega))
set_option maxHeartbeats 2000000 in
set_option maxRecDepth 100000 in
theorem rport_any {w : World} {p : PV} {es : List (Int × Int)} {ws : List Int} {ns : List Nat} (h : Pl w p es ws ns) (v u : Int) :
    Calls Try.prog 49 #[p.val, .int .i64 v, .int .i64 u] w fun e w' => e = .returned (.int .i64 (Plan.port es v u)) ∧ Below w.heap.size w w' := by
  have HP : Hid (Pl w p es ws ns) := h
  have heb : es.length ≤ 8796093022208 := by have := h.eb; have := h.he.1; omega
  clear h
  unfold PV.val
  have hbl := Plan.bes_len es v
  obtain ⟨l, hl⟩ : ∃ l, Plan.bes es v = l := ⟨_, rfl⟩
  have HPO : Hid (Plan.port es v u = Plan.place u l 0) := by unfold Plan.port; rw [hl]; rfl
  rw [hl] at hbl
  have HL : Hid (Plan.bes es v = l) := hl
  clear hl
  go_enter Try.func49, Try.ntmps49
  go_wp2_with (go_at_call 64; refine (rbeside_any (p := p) (HP.out.below (fresh _ _)) v).mono ?_; rintro e w2 ⟨v2, rfl, hown2, hB2⟩; rw [HL.out] at hown2; obtain ⟨a2, cap2, rfl, hz2, _⟩ := zr_of_owns hown2; have HB : Hid (Below w.heap.size w w2) := later (fresh _ _) hB2; have HZ : Hid (Zr w2 a2 l.length l) := hz2; clear hz2 hown2 hB2)
  go_loopw [8] (fun i wr => ∃ k : Nat, k ≤ l.length ∧ i = .int .i64 k ∧ (∀ j, j < k → l.getD j 0 ≠ u) ∧ wr = w2) (fun i _ => l.length - (intOf i).toNat)
  case atStart => exact ⟨0, Nat.zero_le _, rfl, fun j hj => by omega, rfl⟩
  case round =>
    obtain ⟨k, hk, rfl, hno, rfl⟩ := hrel
    have HN : Hid (∀ j, j < k → l.getD j 0 ≠ u) := hno
    clear hno
    by_cases hkn : k < l.length
    · obtain ⟨b, off, ha, hc⟩ := HZ.out.at hkn
      subst ha
      obtain ⟨y, hy⟩ : ∃ y, l.getD k 0 = y := ⟨_, rfl⟩
      have HY : Hid (l.getD k 0 = y) := hy
      rw [hy] at hc
      clear hy
      by_cases hyu : y = u
      · subst hyu
        have hp := Plan.place_hit y l 0 k hkn HY.out HN.out
        rw [← HPO.out, Nat.zero_add] at hp
        have HH : Hid (Plan.port es v y = (k : Int) + 1) := hp
        clear hp
        go_wp2_with fail
        go_ret
        exact ⟨by rw [HH.out]; rfl, HB.out⟩
      · have hyu' : (y == u) = false := by simpa using hyu
        go_wp2_with fail
        go_roundw
        case rel => exact ⟨k + 1, by omega, by go_num, fun j hj => by
          by_cases e : j = k
          · rw [e, HY.out]; exact hyu
          · exact HN.out j (by omega), by first | rfl | trivial⟩
        case measure => simp [intOf]; omega
    · obtain rfl : k = l.length := by omega
      have hp := Plan.place_miss u l 0 HN.out
      rw [← HPO.out] at hp
      have HH : Hid (Plan.port es v u = -1) := hp
      clear hp
      go_wp2_with fail
      go_ret
      exact ⟨by rw [HH.out]; rfl, HB.out⟩
end Go.Proofs.Ytphaaolnmbadcaa
