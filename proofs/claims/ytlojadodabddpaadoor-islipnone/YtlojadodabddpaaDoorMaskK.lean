/-
  mask.Turn at any rows and any number; the laws' known and pick. Conditions: that the slice leads to masks, and that the table of math/bits holds what its initialiser lays.
-/
import Derived.Test.YtlojadodabddpaaDoorMaskF
namespace Go.Proofs.YtlojadodabddpaaDoor
open Go.ChangeShapes Go.WideShapes Go.ChangeAt Go.RowKit
set_option linter.unusedVariables false

set_option maxRecDepth 100000 in
set_option maxHeartbeats 1000000 in
theorem turn_no (a : Option Addr) (len cap : Nat) (n : Int) (h : ¬ (1 ≤ n ∧ n ≤ 16)) (w : World) :
    Calls Tryd.prog 24 #[.slice a len cap, .int .i64 n] w fun e w' => e = .returned (.slice none 0 0) ∧ Below w.heap.size w w' := by
  have d1 : decide (1 ≤ n ∧ n ≤ 16) = false := decide_eq_false h
  have HB : Hid (Below w.heap.size w (w.alloc (.cells #[.int .i64 n] 3))) := (Below.refl _ w).alloc (Nat.le_refl _) _
  go_enter Tryd.func24, Tryd.ntmps24
  go_wp2
  refine wp_scope_straight ?_
  go_wp2_with (go_at_call 31; refine (isSize_any _ _).mono ?_; rintro e w' ⟨rfl, hq⟩; obtain rfl := hq.symm)
  have hfin := bodyPost_ret (P := Tryd.prog) (fn := Tryd.f24) (R := fun e w' => e = Ending.returned (.slice none 0 0) ∧ Below w.heap.size w w') (a := { tmps := #[.slice a len cap, .int .i64 n, undef, .pointer (some ⟨w.heap.size, 0, none⟩), .slice none 0 0, undef, undef, undef, undef, .int .i64 n, .bool false, .bool true, undef, undef, undef, undef, undef, undef, undef, undef, undef, undef, undef, undef, undef, undef, undef, undef, undef, undef, undef, undef, undef, undef, undef, undef, undef, undef, undef, undef, undef], defers := [] }) (w := w.alloc (.cells #[.int .i64 n] 3)) (results_tmp rfl _ _ _) rfl ⟨rfl, HB.out⟩
  exact hfin

theorem turn_any (a : Option Addr) (len cap : Nat) (hcap : len ≤ cap) (hcm : cap ≤ 9223372036854775807) (rows : List Nat) (hl : ∀ x ∈ rows, x < 65536) (n : Int) (w : World) (hr : Nums .u16 w a len rows) (hT : Tab w) :
    Calls Tryd.prog 24 #[.slice a len cap, .int .i64 n] w fun e w' => ∃ b c, e = .returned (.slice b (turnL rows n).length c) ∧ (turnL rows n).length ≤ c ∧ c ≤ 16 ∧ Nums .u16 w' b (turnL rows n).length (turnL rows n) ∧ Below w.heap.size w w' := by
  by_cases h : 1 ≤ n ∧ n ≤ 16
  · obtain ⟨n, rfl⟩ := Int.eq_ofNat_of_zero_le (show 0 ≤ n by omega)
    rw [turnL_in (by omega), Mask.turn_len]
    refine (turn_yes a len cap hcap hcm rows hl n (by omega) (by omega) w hr hT).mono ?_
    rintro e w' ⟨g, rfl, h1, h2⟩
    exact ⟨_, n, rfl, Nat.le_refl _, by omega, h1, h2⟩
  · rw [turnL_out h]
    refine (turn_no a len cap n h w).mono ?_
    rintro e w' ⟨rfl, h2⟩
    exact ⟨none, 0, rfl, Nat.le_refl _, by omega, Nums.nil, h2⟩

/-- what pick says: from 0 on -/
theorem pick0_hit {m k n : Nat} (hn : n ≤ 16) (hk : k < n) (h : ∀ i, i < k → m.testBit i = false) (ht : m.testBit k = true) : pickV m 0 n = (k : Nat) := by
  have e := pickV_in (m := m) (f := 0) hn (by omega)
  rw [show ((0 : Nat) : Int) = 0 from rfl] at e
  rw [e, Mask.pick_some hk (fun i hi => by rw [Nat.zero_add, Nat.mod_eq_of_lt (by omega)]; exact h i hi) (by rw [Nat.zero_add, Nat.mod_eq_of_lt hk]; exact ht), Nat.zero_add, Nat.mod_eq_of_lt hk]
theorem pick0_none {m n : Nat} (h1 : 1 ≤ n) (hn : n ≤ 16) (h : ∀ i, i < n → m.testBit i = false) : pickV m 0 n = -1 := by
  have e := pickV_in (m := m) (f := 0) hn (by omega)
  rw [show ((0 : Nat) : Int) = 0 from rfl] at e
  rw [e, Mask.pick_none (fun i hi => by rw [Nat.zero_add, Nat.mod_eq_of_lt hi]; exact h i hi)]

end Go.Proofs.YtlojadodabddpaaDoor
