/-
  mask.Turn at any rows and any number; the laws' known and pick. Conditions: that the slice leads to masks, and that the table of math/bits holds what its initialiser lays.
-/
import Derived.Test.YtakmbemlmpaknaaDoorMaskF
namespace Go.Proofs.YtakmbemlmpaknaaDoor
open Go.ChangeShapes Go.WideShapes Go.ChangeAt Go.RowKit
set_option linter.unusedVariables false

set_option maxRecDepth 100000 in
set_option maxHeartbeats 1000000 in
theorem turn_no (a : Option Addr) (len cap : Nat) (n : Int) (h : ¬ (1 ≤ n ∧ n ≤ 16)) (w : World) :
    Calls Tryd.prog 15 #[.slice a len cap, .int .i64 n] w fun e w' => e = .returned (.slice none 0 0) ∧ Below w.heap.size w w' := by
  have d1 : decide (1 ≤ n ∧ n ≤ 16) = false := decide_eq_false h
  have HB : Hid (Below w.heap.size w (w.alloc (.cells #[.int .i64 n] 3))) := (Below.refl _ w).alloc (Nat.le_refl _) _
  go_enter Tryd.func15, Tryd.ntmps15
  go_wp2
  refine wp_scope_straight ?_
  go_wp2_with (go_at_call 26; refine (isSize_any _ _).mono ?_; rintro e w' ⟨rfl, hq⟩; obtain rfl := hq.symm)
  have hfin := bodyPost_ret (P := Tryd.prog) (fn := Tryd.f15) (R := fun e w' => e = Ending.returned (.slice none 0 0) ∧ Below w.heap.size w w') (a := { tmps := #[.slice a len cap, .int .i64 n, undef, .pointer (some ⟨w.heap.size, 0, none⟩), .slice none 0 0, undef, undef, undef, undef, .int .i64 n, .bool false, .bool true, undef, undef, undef, undef, undef, undef, undef, undef, undef, undef, undef, undef, undef, undef, undef, undef, undef, undef, undef, undef, undef, undef, undef, undef, undef, undef, undef, undef, undef], defers := [] }) (w := w.alloc (.cells #[.int .i64 n] 3)) (results_tmp rfl _ _ _) rfl ⟨rfl, HB.out⟩
  exact hfin

theorem turn_any (a : Option Addr) (len cap : Nat) (hcap : len ≤ cap) (hcm : cap ≤ 9223372036854775807) (rows : List Nat) (hl : ∀ x ∈ rows, x < 65536) (n : Int) (w : World) (hr : Nums .u16 w a len rows) (hT : Tab w) :
    Calls Tryd.prog 15 #[.slice a len cap, .int .i64 n] w fun e w' => ∃ b c, e = .returned (.slice b (turnL rows n).length c) ∧ (turnL rows n).length ≤ c ∧ c ≤ 16 ∧ Nums .u16 w' b (turnL rows n).length (turnL rows n) ∧ Below w.heap.size w w' := by
  by_cases h : 1 ≤ n ∧ n ≤ 16
  · obtain ⟨n, rfl⟩ := Int.eq_ofNat_of_zero_le (show 0 ≤ n by omega)
    rw [turnL_in (by omega), Mask.turn_len]
    refine (turn_yes a len cap hcap hcm rows hl n (by omega) (by omega) w hr hT).mono ?_
    rintro e w' ⟨g, rfl, h1, h2⟩
    exact ⟨_, n, rfl, Nat.le_refl _, by omega, h1, h2⟩
  · rw [turnL_out h]
    refine (turn_no a len cap n h w).mono ?_
    rintro e w' ⟨rfl, h2⟩
    exact ⟨none, 0, rfl, Nat.le_refl _, by omega, Nums.nil, h2⟩

theorem refTurn_any (a : Option Addr) (len cap : Nat) (rows : List Nat) (hl : ∀ x ∈ rows, x < 65536) (n : Int) (w : World) (hr : Nums .u16 w a len rows) :
    Calls Tryd.prog 24 #[.slice a len cap, .int .i64 n] w fun e w' => ∃ b c, e = .returned (.slice b (turnL rows n).length c) ∧ Nums .u16 w' b (turnL rows n).length (turnL rows n) ∧ Below w.heap.size w w' := by
  by_cases h : 1 ≤ n ∧ n ≤ 16
  · obtain ⟨n, rfl⟩ := Int.eq_ofNat_of_zero_le (show 0 ≤ n by omega)
    rw [turnL_in (by omega), Mask.turn_len]
    refine (refTurn_yes a len cap rows hl n (by omega) (by omega) w hr).mono ?_
    rintro e w' ⟨rfl, h1, h2⟩
    exact ⟨_, n, rfl, h1, h2⟩
  · rw [turnL_out h]
    refine (refTurn_no a len cap n h w).mono ?_
    rintro e w' ⟨rfl, rfl⟩
    exact ⟨none, 0, rfl, Nums.nil, Below.refl _ _⟩

theorem pick_22 (f n : Int) (w : World) : Calls Tryd.prog 12 #[.int .u16 22, .int .i64 f, .int .i64 n] w fun e W' => e = .returned (.int .i64 (pickV 22 f n)) ∧ Below w.heap.size w W' := pick_any 22 (by decide) f n w
theorem count_22 (w : World) : Calls Tryd.prog 17 #[.int .u16 22] w fun e w' => e = .returned (.int .i64 3) ∧ Below w.heap.size w w' := count_any 22 (by decide) w
theorem has_22 (w : World) : Calls Tryd.prog 13 #[.int .u16 22, .int .i64 4] w fun e w' => e = .returned (.bool true) ∧ w' = w := has_any 22 (by decide) 4 w
theorem bits_22 (w : World) (hT : Tab w) : Calls Tryd.prog 20 #[.int .u16 22] w fun e W' => ∃ a cap, e = .returned (.slice a 3 cap) ∧ Below w.heap.size w W' := by
  refine (bits_any 22 (by decide) w hT).mono ?_
  rintro e w' ⟨a, cap, rfl, _, h⟩
  exact ⟨a, cap, rfl, h⟩
theorem turn_1 (w : World) (hT : Tab w) : Calls Tryd.prog 15 #[.slice (some ⟨w.heap.size, 0, none⟩) 1 1, .int .i64 2] (w.alloc (.cells #[.int .u16 1] 22)) fun e w' => ∃ b c, e = .returned (.slice b 2 c) ∧ Below w.heap.size w w' := by
  have hb : Below w.heap.size w (w.alloc (.cells #[.int .u16 1] 22)) := (Below.refl _ w).alloc (Nat.le_refl _) _
  refine (turn_any (some ⟨w.heap.size, 0, none⟩) 1 1 (by decide) (by decide) [1] (by simp) 2 _ ⟨rfl, by unfold maxLen; omega, .inr ⟨_, 0, rfl, by simp, fun i hi => ?_⟩⟩ (hT.below hb hT.lt)).mono ?_
  · obtain rfl : i = 0 := by omega
    exact (newCell w (.int .u16 1) 22).1
  · rintro e w' ⟨b, c, rfl, _, _, _, h⟩
    exact ⟨b, c, rfl, hb.trans (h.mono (by simp))⟩

set_option maxRecDepth 100000 in
set_option maxHeartbeats 1000000 in
theorem known_any (w : World) (hT : Tab w) : Calls Tryd.prog 11 #[] w fun e w' => e = .returned (.bool true) ∧ Below w.heap.size w w' := by
  have p1 : pickV 22 3 5 = 4 := by decide
  have p2 : pickV 22 0 5 = 1 := by decide
  have HT : Hid (Tab w) := hT
  have h0 := hT.lt
  clear hT
  go_enter Tryd.func11, Tryd.ntmps11
  go_wp2_with (first | (go_at_call_of 12 (Value.int IntKind.i64 3); refine (pick_22 _ _ _).mono ?_; rintro e w1 ⟨rfl, b1⟩) | (go_at_call_of 12 (Value.int IntKind.i64 0); refine (pick_22 _ _ _).mono ?_; rintro e w2 ⟨rfl, b2⟩) | (go_at_call 17; refine (count_22 _).mono ?_; rintro e w3 ⟨rfl, b3⟩) | (go_at_call 13; refine (has_22 _).mono ?_; rintro e w' ⟨rfl, hq⟩; obtain rfl := hq.symm; clear hq; have b23 := (b1.trans (b2.mono b1.size)).trans (b3.mono (Nat.le_trans b1.size b2.size))) | (go_at_call 20; refine (bits_22 _ (HT.out.below b23 h0)).mono ?_; rintro e w4 ⟨a4, c4, rfl, b4⟩; have b24 := b23.trans (b4.mono b23.size)) | (go_at_call 15; refine (turn_1 _ (HT.out.below b24 h0)).mono ?_; rintro e w5 ⟨a5, c5, rfl, b5⟩))
  go_ret
  exact ⟨rfl, b24.trans (b5.mono b24.size)⟩

/-- what pick says: from 0 on -/
theorem pick0_hit {m k n : Nat} (hn : n ≤ 16) (hk : k < n) (h : ∀ i, i < k → m.testBit i = false) (ht : m.testBit k = true) : pickV m 0 n = (k : Nat) := by
  have e := pickV_in (m := m) (f := 0) hn (by omega)
  rw [show ((0 : Nat) : Int) = 0 from rfl] at e
  rw [e, Mask.pick_some hk (fun i hi => by rw [Nat.zero_add, Nat.mod_eq_of_lt (by omega)]; exact h i hi) (by rw [Nat.zero_add, Nat.mod_eq_of_lt hk]; exact ht), Nat.zero_add, Nat.mod_eq_of_lt hk]
theorem pick0_none {m n : Nat} (h1 : 1 ≤ n) (hn : n ≤ 16) (h : ∀ i, i < n → m.testBit i = false) : pickV m 0 n = -1 := by
  have e := pickV_in (m := m) (f := 0) hn (by omega)
  rw [show ((0 : Nat) : Int) = 0 from rfl] at e
  rw [e, Mask.pick_none (fun i hi => by rw [Nat.zero_add, Nat.mod_eq_of_lt hi]; exact h i hi)]

set_option maxRecDepth 100000 in
set_option maxHeartbeats 1000000 in
theorem lawpick_any (m : Nat) (hm : m < 65536) (n : Int) (w : World) : Calls Tryd.prog 14 #[.int .u16 (m : Nat), .int .i64 n] w fun e w' => e = .returned (.int .i64 (pickV m 0 n)) ∧ w' = w := by
  by_cases h : 1 ≤ n ∧ n ≤ 16
  · obtain ⟨n, rfl⟩ := Int.eq_ofNat_of_zero_le (show 0 ≤ n by omega)
    have hn1 : 1 ≤ n := by omega
    have hn : n ≤ 16 := by omega
    clear h
    have d1 : decide ((n : Int) < 1) = false := decide_eq_false (by omega)
    have d2 : decide ((16 : Int) < (n : Int)) = false := decide_eq_false (by omega)
    go_enter Tryd.func14, Tryd.ntmps14
    go_wp2
    go_loopw [5] (fun j wr => ∃ k : Nat, k ≤ n ∧ j = .int .i64 k ∧ wr = w ∧ ∀ i, i < k → m.testBit i = false) (fun j _ => n - (intOf j).toNat)
    case atStart => exact ⟨0, Nat.zero_le _, rfl, rfl, fun i hi => absurd hi (by omega)⟩
    case round =>
      obtain ⟨k, hk, rfl, rfl, hno⟩ := hrel
      have HN : Hid (∀ i, i < k → m.testBit i = false) := hno
      clear hno
      by_cases hkn : k < n
      · have hb := hasB_nat (m := m) (show k < 16 by omega)
        obtain ⟨b, hb2⟩ : ∃ b, m.testBit k = b := ⟨_, rfl⟩
        rw [hb2] at hb
        have HB : Hid (m.testBit k = b) := hb2
        clear hb2
        cases b with
        | true =>
          go_wp2_with (go_at_call 13; refine (has_any m hm _ _).mono ?_; rintro e w' ⟨rfl, rfl⟩)
          go_ret
          exact ⟨ret_int (pick0_hit hn hkn HN.out HB.out).symm, rfl⟩
        | false =>
          go_wp2_with (go_at_call 13; refine (has_any m hm _ _).mono ?_; rintro e w' ⟨rfl, rfl⟩)
          go_roundw
          case rel =>
            have hall : ∀ i, i < k + 1 → m.testBit i = false := fun i hi => by
              rcases Nat.lt_or_ge i k with h' | h'
              · exact HN.out i h'
              · obtain rfl : i = k := by omega
                exact HB.out
            first
              | exact ⟨k + 1, by omega, by go_num, by first | rfl | trivial, hall⟩
              | ((repeat apply Exists.intro); exact ⟨⟨k + 1, by omega, by go_num, by first | rfl | trivial, hall⟩, rfl⟩)
          case measure => simp [intOf]; omega
      · obtain rfl : k = n := by omega
        go_wp2
        go_ret
        exact ⟨ret_int (pick0_none hn1 hn HN.out).symm, rfl⟩
  · rw [pickV_out (by omega)]
    by_cases h1 : n < 1
    · go_enter Tryd.func14, Tryd.ntmps14
      go_wp2
      go_ret
      exact ⟨rfl, rfl⟩
    · have h2 : 16 < n := by omega
      go_enter Tryd.func14, Tryd.ntmps14
      go_wp2
      go_ret
      exact ⟨rfl, rfl⟩
end Go.Proofs.YtakmbemlmpaknaaDoor
