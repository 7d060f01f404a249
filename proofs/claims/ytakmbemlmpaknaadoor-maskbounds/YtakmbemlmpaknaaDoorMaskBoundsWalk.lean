/-
  The law MaskBounds of package shunterlaw09: what is out of bounds is in no mask, and nothing is picked by it. Conditions: that the table of math/bits holds what its initialiser lays.
-/
import Derived.Test.YtakmbemlmpaknaaDoorMaskS
namespace Go.Proofs.YtakmbemlmpaknaaDoor
open Go.ChangeShapes Go.WideShapes Go.ChangeAt Go.RowKit
set_option linter.unusedVariables false

/-- what is picked is in the mask, and below n -/
theorem pick_in_mask {m f n : Nat} : Mask.pick m f n = -1 ∨ ∃ x : Nat, Mask.pick m f n = (x : Nat) ∧ m.testBit x = true := by
  unfold Mask.pick
  split
  · rename_i i h
    exact .inr ⟨i, rfl, by simpa using List.find?_some h⟩
  · exact .inl rfl
theorem pick_self {m i : Nat} (hi : i < 16) : (pickV m i 16 == (i : Nat)) = m.testBit i := by
  have e := pickV_in (m := m) (f := i) (n := 16) (by omega) hi
  rw [show ((16 : Nat) : Int) = 16 from rfl] at e
  rw [e]
  cases hb : m.testBit i with
  | true =>
    rw [Mask.pick_some (k := 0) (by omega) (fun j hj => absurd hj (by omega)) (by rw [Nat.add_zero, Nat.mod_eq_of_lt hi]; exact hb), Nat.add_zero, Nat.mod_eq_of_lt hi]
    simp
  | false =>
    rcases pick_in_mask (m := m) (f := i) (n := 16) with h | ⟨x, h, hx⟩
    · rw [h]; simp
    · rw [h]
      simp
      intro e
      have e2 : x = i := by omega
      rw [e2, hb] at hx
      cases hx

set_option maxRecDepth 100000 in
set_option maxHeartbeats 1000000 in
theorem maskBounds_any (w : World) (hT : Tab w) (m0 : Int) (wm : (Lit.int .u16 m0).wf = true) (i : Int) (wi : (Lit.int .i64 i).wf = true) :
    Calls Tryd.prog 3 #[.int .u16 m0, .int .i64 i] w fun e w' => e = .returned (.bool true) ∧ Below w.heap.size w w' := by
  obtain ⟨m, rfl, hm⟩ := nat_u16 wm
  have HT : Hid (Tab w) := hT
  clear hT wm wi
  by_cases h : 0 ≤ i ∧ i ≤ 15
  · obtain ⟨k, rfl⟩ := Int.eq_ofNat_of_zero_le h.1
    have hk : k < 16 := by omega
    have e1 := pick_self (m := m) hk
    have e2 := hasB_nat (m := m) hk
    obtain ⟨t, ht⟩ : ∃ t, m.testBit k = t := ⟨_, rfl⟩
    rw [ht] at e1 e2
    obtain ⟨p, hp⟩ : ∃ p, pickV m (k : Nat) 16 = p := ⟨_, rfl⟩
    rw [hp] at e1
    clear h ht
    go_enter Tryd.func3, Tryd.ntmps3
    go_wp2_with fail
    refine (known_any _ HT.out).mono ?_
    rintro e w1 ⟨rfl, b1⟩
    go_wp2_with fail
    refine (pick_any m hm _ _ _).mono ?_
    rintro e w2 ⟨rfl, b2⟩
    go_wp2_with fail
    refine (pick_any m hm _ _ _).mono ?_
    rintro e w3 ⟨rfl, b3⟩
    go_wp2_with fail
    refine (pick_any m hm _ _ _).mono ?_
    rintro e w4 ⟨rfl, b4⟩
    go_wp2_with fail
    refine (has_any m hm _ _).mono ?_
    rintro e w5 ⟨rfl, rfl⟩
    go_wp2_with fail
    go_ret
    exact ⟨rfl, later (later (later b1 b2) b3) b4⟩
  · have e1 := hasB_out (m := m) (i := i) (by omega)
    have e2 := pickV_out (m := m) (f := i) (n := 16) (by omega)
    have d : (decide (0 ≤ i) && decide (i ≤ 15)) = false := by
      rcases Int.lt_or_le i 0 with h' | h'
      · rw [decide_eq_false (p := 0 ≤ i) (by omega), Bool.false_and]
      · rw [decide_eq_false (p := i ≤ 15) (by omega), Bool.and_false]
    by_cases h16 : i = 16
    · subst h16
      go_enter Tryd.func3, Tryd.ntmps3
      go_wp2_with fail
      refine (known_any _ HT.out).mono ?_
      rintro e w1 ⟨rfl, b1⟩
      go_wp2_with fail
      refine (has_any m hm _ _).mono ?_
      rintro e w2 ⟨rfl, hq⟩
      obtain rfl := hq.symm
      go_wp2_with fail
      refine (pick_any m hm _ _ _).mono ?_
      rintro e w3 ⟨rfl, b3⟩
      go_wp2_with fail
      refine (pick_any m hm _ _ _).mono ?_
      rintro e w4 ⟨rfl, b4⟩
      go_wp2_with fail
      refine (lawpick_any m hm _ _).mono ?_
      rintro e w5 ⟨rfl, rfl⟩
      go_wp2_with fail
      go_ret
      exact ⟨rfl, later (later b1 b3) b4⟩
    · have e16 : (i == 16) = false := by simp [h16]
      go_enter Tryd.func3, Tryd.ntmps3
      go_wp2_with fail
      all_goals
        refine (known_any _ HT.out).mono ?_
        rintro e w1 ⟨rfl, b1⟩
        go_wp2_with fail
        refine (has_any m hm _ _).mono ?_
        rintro e w2 ⟨rfl, hq⟩
        obtain rfl := hq.symm
        go_wp2_with fail
        refine (pick_any m hm _ _ _).mono ?_
        rintro e w3 ⟨rfl, b3⟩
        go_wp2_with fail
        refine (pick_any m hm _ _ _).mono ?_
        rintro e w4 ⟨rfl, b4⟩
        go_wp2_with fail
        refine (lawpick_any m hm _ _).mono ?_
        rintro e w5 ⟨rfl, hq5⟩
        obtain rfl := hq5.symm
        go_wp2_with fail
        refine (turn_no _ _ _ i (by omega) _).mono ?_
        rintro e w6 ⟨rfl, b6⟩
        go_wp2_with fail
        go_ret
        exact ⟨rfl, later (later (later (later b1 b3) b4) ((Below.refl _ _).alloc (Nat.le_refl _) _)) b6⟩
end Go.Proofs.YtakmbemlmpaknaaDoor
