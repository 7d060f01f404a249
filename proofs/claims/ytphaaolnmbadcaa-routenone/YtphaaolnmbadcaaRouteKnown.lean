/-
  The laws' helpers known and tells (package shunterlaw14). Conditions: that package route comes to what RouteSpec says.
-/
import Derived.Test.YtphaaolnmbadcaaRouteRing
import Derived.Deep.RegionHeld3
namespace Go.Proofs.Ytphaaolnmbadcaa
open Go.ChangeShapes Go.WideShapes Go.ChangeAt Go.RowKit
set_option linter.unusedVariables false

theorem ring_facts {base : Nat} {p : PV} {w : World} (on : Bool) (h : MkN base p 1 0 0 (Plan.full 7 3) (if on then Route.ring3 else Route.mkRows 3 []) w) : PlN w p (Plan.full 7 3) (Plan.mkW 0 (Plan.mkL 0)) (if on then Route.ring3 else Route.mkRows 3 []) ∧ Plan.may p.num (Plan.full 7 3) (Plan.mkW 0 (Plan.mkL 0)) ((if on then Route.ring3 else Route.mkRows 3 []).map List.length) = true ∧ p.nodes = 3 := by
  have hN : Plan.mkN 1 = 3 := rfl
  have hi : ∀ r ∈ (if on then Route.ring3 else Route.mkRows 3 []), ∀ x ∈ r, 0 ≤ x ∧ x ≤ 6 := by cases on <;> decide
  have hl : (if on then Route.ring3 else Route.mkRows 3 []).length = 3 ∧ ∀ i, i < 3 → ((if on then Route.ring3 else Route.mkRows 3 []).getD i []).length = 3 := by cases on <;> decide
  refine ⟨h.pln (by decide) (by omega) (full_i64 (by omega)) (fun r hr x hx => by have := hi r hr x hx; unfold I64; omega), ?_, by rw [h.nodes, hN]; rfl⟩
  exact mk_may_rows h.num (by rw [hN]; decide) (by rw [hN]; exact hl.1) (by rw [hN]; exact hl.2)
theorem kring_path : Route.pathOf true 3 (Plan.full 7 3) Route.ring3 0 2 = [0, 1, 2] := by decide
theorem kring_waits : (Route.waitsOf true 3 (Plan.full 7 3) Route.ring3).length = 6 := by decide
theorem kring_bad {b : Bool} {z : Int} (hb : b = true) (h : Route.CheckIs b 3 (Plan.full 7 3) Route.ring3 z) : z = 140 := by
  subst hb
  exact h.same (.inr (.inl ⟨rfl, Route.known_ring.1, rfl⟩))
theorem kring_fine {b : Bool} {z : Int} (hb : b = true) (h : Route.CheckIs b 3 (Plan.full 7 3) (Route.mkRows 3 []) z) : z = 0 := by
  subst hb
  exact h.same (.inr (.inr ⟨rfl, Route.known_ring.2.1, rfl⟩))
set_option maxHeartbeats 4000000 in
set_option maxRecDepth 100000 in
theorem rknown_any (S : RouteSpec) (w : World) :
    Calls Try.prog 10 #[] w fun e w' => e = .returned (.bool true) ∧ Below w.heap.size w w' := by
  go_enter Try.func10, Try.ntmps10
  go_wp2_with fail
  refine (ring_any w true).mono ?_
  rintro e w1 ⟨p, rfl, hM, hB1⟩
  obtain ⟨hP, hm, hN⟩ := ring_facts true hM
  have HB1 : Hid (Below w.heap.size w w1) := hB1
  have HP : Hid _ := S.path hP hm 0 2 (by unfold I64; omega) (by unfold I64; omega)
  rw [hN, if_pos rfl, kring_path] at HP
  obtain ⟨v1, hv1⟩ : ∃ v, p.val = v := ⟨_, rfl⟩
  rw [hv1] at HP ⊢
  clear hM hB1 hP hm hN hv1
  go_wp2_with fail
  refine Calls.mono HP.out ?_
  rintro e w2 ⟨a2, c2, rfl, hz2, _, _, hB2⟩
  have HZ2 : Hid (Zr w2 a2 3 [0, 1, 2]) := hz2
  have HB2 : Hid (Below w.heap.size w w2) := later HB1.out hB2
  clear hz2 hB2 HP HB1
  go_wp2_with fail
  refine (ring_any w2 true).mono ?_
  rintro e w3 ⟨p, rfl, hM, hB3⟩
  obtain ⟨hP, hm, hN⟩ := ring_facts true hM
  have HB3 : Hid (Below w.heap.size w w3) := later HB2.out hB3
  have HZ3 : Hid (Zr w3 a2 3 [0, 1, 2]) := HZ2.out.below hB3
  have HC : Hid _ := S.check hP hm
  rw [hN, if_pos rfl] at HC
  obtain ⟨v3, hv3⟩ : ∃ v, p.val = v := ⟨_, rfl⟩
  rw [hv3] at HC ⊢
  clear hM hB3 hP hm hN hv3 HB2 HZ2
  go_wp2_with fail
  refine Calls.mono HC.out ?_
  rintro e w4 ⟨z, rfl, hz, hB4⟩
  obtain rfl := kring_bad rfl hz
  have HB4 : Hid (Below w.heap.size w w4) := later HB3.out hB4
  have HZ4 : Hid (Zr w4 a2 3 [0, 1, 2]) := HZ3.out.below hB4
  clear hz hB4 HC HB3 HZ3
  go_wp2_with fail
  refine (ring_any w4 false).mono ?_
  rintro e w5 ⟨p, rfl, hM, hB5⟩
  obtain ⟨hP, hm, hN⟩ := ring_facts false hM
  have HB5 : Hid (Below w.heap.size w w5) := later HB4.out hB5
  have HZ5 : Hid (Zr w5 a2 3 [0, 1, 2]) := HZ4.out.below hB5
  have HC : Hid _ := S.check hP hm
  rw [hN, if_neg (by decide)] at HC
  obtain ⟨v5, hv5⟩ : ∃ v, p.val = v := ⟨_, rfl⟩
  rw [hv5] at HC ⊢
  clear hM hB5 hP hm hN hv5 HB4 HZ4
  go_wp2_with fail
  refine Calls.mono HC.out ?_
  rintro e w6 ⟨z, rfl, hz, hB6⟩
  obtain rfl := kring_fine rfl hz
  have HB6 : Hid (Below w.heap.size w w6) := later HB5.out hB6
  have hZ6 := HZ5.out.below hB6
  obtain ⟨b, off, e2, c1⟩ := hZ6.at (k := 1) (by omega)
  subst e2
  have c1' : w6.cell? ⟨b, off + 1, none⟩ = some (.int .i64 1) := c1
  clear hz hB6 HC HB5 HZ5 hZ6 c1
  go_wp2_with fail
  refine (ring_any w6 true).mono ?_
  rintro e w7 ⟨p, rfl, hM, hB7⟩
  obtain ⟨hP, hm, hN⟩ := ring_facts true hM
  have HB7 : Hid (Below w.heap.size w w7) := later HB6.out hB7
  have HWt : Hid _ := S.waits hP hm
  rw [hN, if_pos rfl, kring_waits] at HWt
  obtain ⟨v7, hv7⟩ : ∃ v, p.val = v := ⟨_, rfl⟩
  rw [hv7] at HWt ⊢
  clear hM hB7 hP hm hN hv7 HB6 c1'
  go_wp2_with fail
  refine Calls.mono HWt.out ?_
  rintro e w8 ⟨a8, c8, rfl, _, hB8⟩
  have HB8 : Hid (Below w.heap.size w w8) := later HB7.out hB8
  clear hB8 HB7 HWt
  go_wp2_with fail
  go_ret
  exact ⟨rfl, HB8.out⟩
end Go.Proofs.Ytphaaolnmbadcaa
