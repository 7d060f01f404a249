/-
  What the small functions of packages mask and shunterref09, and of math/bits behind them, come to, at any mask. Conditions: that the numbers are of their kinds; where the table of math/bits is read, that it holds what its initialiser lays.
-/
import Derived.Test.YtlojadodabddpaaDoorRows
import Derived.Test.YtlojadodabddpaaDoorMaskMath
import Derived.Lib.LaidTab
import Derived.Laws.BitsAllLaws
import Derived.Laws.ShiftsVarLaws
import Derived.WalkKit
import Derived.ProofKit
import Derived.OpenShut
import Derived.BigQuiet
import Derived.Lib.BitFns
import Derived.Lib.Tables
namespace Go.Proofs.YtlojadodabddpaaDoor
open Go.ChangeShapes Go.WideShapes Go.ChangeAt Go.RowKit
set_option linter.unusedVariables false

theorem ret_bool {a b : Bool} (h : a = b) : Ending.returned (.bool a) = .returned (.bool b) := by rw [h]
theorem ret_int {k : IntKind} {a b : Int} (h : a = b) : Ending.returned (.int k a) = .returned (.int k b) := by rw [h]

/-- i is in m -/
def hasB (m : Nat) (i : Int) : Bool := decide (0 ≤ i ∧ i < 16) && m.testBit i.toNat
theorem hasB_nat {m i : Nat} (h : i < 16) : hasB m (i : Nat) = m.testBit i := by
  unfold hasB
  rw [decide_eq_true (by omega)]
  simp
theorem hasB_out {m : Nat} {i : Int} (h : i < 0 ∨ 16 ≤ i) : hasB m i = false := by
  unfold hasB
  rw [decide_eq_false (by omega)]
  rfl
theorem bit_eq (m i : Nat) : (m / 2 ^ i % 2 == 1) = m.testBit i := by
  rw [Nat.testBit_eq_decide_div_mod_eq]
  rfl

set_option maxHeartbeats 400000 in
theorem has_any (m : Nat) (hm : m < 65536) (i : Int) (w : World) :
    Calls Tryd.prog 43 #[.int .u16 m, .int .i64 i] w fun e w' => e = .returned (.bool (hasB m i)) ∧ w' = w := by
  by_cases h0 : i < 0
  · have HR := hasB_out (m := m) (.inl h0)
    rw [HR]
    clear HR
    go_enter Tryd.func43, Tryd.ntmps43
    go_wp2
    go_ret
    exact ⟨rfl, rfl⟩
  · by_cases h1 : 16 ≤ i
    · have HR := hasB_out (m := m) (.inr h1)
      rw [HR]
      clear HR
      go_enter Tryd.func43, Tryd.ntmps43
      go_wp2
      go_ret
      exact ⟨rfl, rfl⟩
    · obtain ⟨k, rfl⟩ := Int.eq_ofNat_of_zero_le (show 0 ≤ i by omega)
      have hk : k < 16 := by omega
      rw [hasB_nat hk]
      clear h0 h1
      go_enter Tryd.func43, Tryd.ntmps43
      go_wp2
      go_ret
      refine ⟨ret_bool ?_, rfl⟩
      have hd : m / 2 ^ k < 65536 := Nat.lt_of_le_of_lt (Nat.div_le_self _ _) hm
      have e := u16_and_nat (m / 2 ^ k) 1 hd (by omega)
      rw [show ((m / 2 ^ k : Nat) : Int) = (m : Int) / 2 ^ k by simp, show ((1 : Nat) : Int) = 1 from rfl] at e
      rw [e, Nat.and_one_is_mod, ← bit_eq]
      rcases Nat.mod_two_eq_zero_or_one (m / 2 ^ k) with h | h <;> rw [h] <;> rfl

set_option maxHeartbeats 400000 in
theorem isSize_any (n : Int) (w : World) :
    Calls Tryd.prog 31 #[.int .i64 n] w fun e w' => e = .returned (.bool (decide (1 ≤ n ∧ n ≤ 16))) ∧ w' = w := by
  by_cases h0 : 1 ≤ n
  · by_cases h1 : n ≤ 16
    · rw [decide_eq_true ⟨h0, h1⟩]
      go_enter Tryd.func31, Tryd.ntmps31
      go_wp2
      go_ret
      exact ⟨rfl, rfl⟩
    · rw [decide_eq_false (by omega)]
      go_enter Tryd.func31, Tryd.ntmps31
      go_wp2
      go_ret
      exact ⟨rfl, rfl⟩
  · rw [decide_eq_false (by omega)]
    go_enter Tryd.func31, Tryd.ntmps31
    go_wp2
    go_ret
    exact ⟨rfl, rfl⟩

/-- the table of math/bits holds what its initialiser lays -/
def Tab (w : World) : Prop := ∀ i, i < 32 → w.cell? ⟨0, i, none⟩ = some (.int .u8 (Mask.tab.getD i 0))
theorem Tab.below {w w' : World} {n : Nat} (h : Tab w) (k : Below n w w') (hn : 0 < n) : Tab w' := fun i hi => (k.cell (p := ⟨0, i, none⟩) hn).trans (h i hi)
theorem cell_lt {w : World} {a : Addr} {v : Value} (h : w.cell? a = some v) : a.block < w.heap.size := by
  rcases Nat.lt_or_ge a.block w.heap.size with h' | h'
  · exact h'
  · simp [World.cell?, Array.getElem?_eq_none h'] at h
theorem Tab.lt {w : World} (h : Tab w) : 0 < w.heap.size := cell_lt (h 0 (by omega))

set_option maxHeartbeats 1000000 in
theorem ctz_any (m i q : Nat) (he : m = 2 ^ i * (2 * q + 1)) (hm : m < 65536) (w : World) (ht : Tab w) :
    Calls Tryd.prog 39 #[.int .u16 m] w fun e w' => e = .returned (.int .i64 (i : Nat)) ∧ w' = w := by
  have hi : i < 16 := Mask.low_lt (he ▸ hm)
  have hpos : 0 < m := by rw [he]; exact Nat.mul_pos (Nat.two_pow_pos i) (by omega)
  have e1 : bits .and .u16 (m : Int) (IntKind.u16.wrap (-(m : Int))) = ((2 ^ i : Nat) : Int) := by
    rw [IntKind.wrap_u16, show -(m : Int) % 65536 = ((65536 - m : Nat) : Int) by omega, u16_and_nat _ _ hm (by omega), he, Mask.alone_is i q (he ▸ hm)]
  obtain ⟨t1, t2⟩ := Mask.tab_at i hi
  have hc := ht _ t1
  rw [t2] at hc
  obtain ⟨p, hp⟩ : ∃ p, 2 ^ i = p := ⟨_, rfl⟩
  have hp16 : p < 65536 := by rw [← hp]; exact Nat.pow_lt_pow_right (by omega) hi
  rw [hp] at e1 t1 hc
  obtain ⟨d, hd⟩ : ∃ d, p * 125613361 % 4294967296 / 134217728 = d := ⟨_, rfl⟩
  rw [hd] at t1 hc
  have e2 : (p : Int) * 125613361 % 4294967296 / 134217728 = (d : Nat) := by rw [← hd]; simp
  have e3 : ((m : Int) == 0) = false := by simp; omega
  clear he t2 hd hp ht
  go_enter Tryd.func39, Tryd.ntmps39
  go_wp2
  go_ret
  exact ⟨rfl, rfl⟩

theorem drewN_below (w : World) (n : Nat) : Below w.heap.size w (w.drewN n) := ⟨rfl, rfl, rfl, Nat.le_refl _, fun _ _ => rfl⟩
theorem half_step (m k : Nat) : m / 2 ^ k / 2 = m / 2 ^ (k + 1) := by rw [Nat.pow_succ, Nat.div_div_eq_div_mul]
set_option maxHeartbeats 400000 in
theorem refHas_any (m : Nat) (hm : m < 65536) (i : Int) (w : World) :
    Calls Tryd.prog 21 #[.int .u16 m, .int .i64 i] w fun e w' => e = .returned (.bool (hasB m i)) ∧ w' = w := by
  by_cases h0 : i < 0
  · have HR := hasB_out (m := m) (.inl h0)
    rw [HR]
    clear HR
    go_enter Tryd.func21, Tryd.ntmps21
    go_wp2
    go_ret
    exact ⟨rfl, rfl⟩
  · by_cases h1 : 16 ≤ i
    · have HR := hasB_out (m := m) (.inr h1)
      rw [HR]
      clear HR
      go_enter Tryd.func21, Tryd.ntmps21
      go_wp2
      go_ret
      exact ⟨rfl, rfl⟩
    · obtain ⟨n, rfl⟩ := Int.eq_ofNat_of_zero_le (show 0 ≤ i by omega)
      have hn : n < 16 := by omega
      rw [hasB_nat hn]
      clear h0 h1
      go_enter Tryd.func21, Tryd.ntmps21
      go_wp2
      go_loopw [0, 5] (fun x j wr => ∃ k : Nat, k ≤ n ∧ x = .int .u16 (m / 2 ^ k : Nat) ∧ j = .int .i64 k ∧ wr = w) (fun _ j _ => n - (intOf j).toNat)
      case atStart => exact ⟨0, Nat.zero_le _, by simp, rfl, rfl⟩
      case round =>
        obtain ⟨k, hk, rfl, rfl, rfl⟩ := hrel
        obtain ⟨x, hx⟩ : ∃ x, m / 2 ^ k = x := ⟨_, rfl⟩
        have hx16 : x < 65536 := by rw [← hx]; exact Nat.lt_of_le_of_lt (Nat.div_le_self _ _) hm
        have HX : Hid (m / 2 ^ k = x) := hx
        rw [hx]
        clear hx
        by_cases hkn : k < n
        · go_wp2
          go_roundw
          case rel => exact ⟨k + 1, by omega, by rw [← half_step, HX.out]; go_num, by go_num, by first | rfl | trivial⟩
          case measure => simp [intOf]; omega
        · obtain rfl : k = n := by omega
          go_wp2
          go_ret
          refine ⟨ret_bool ?_, rfl⟩
          rw [← bit_eq, HX.out]
          rcases Nat.mod_two_eq_zero_or_one x with h | h
          · rw [h, show (x : Int) % 2 = 0 by omega]; rfl
          · rw [h, show (x : Int) % 2 = 1 by omega]; rfl

set_option maxHeartbeats 400000 in
theorem refBit_any (n : Nat) (hn : n < 16) (w : World) :
    Calls Tryd.prog 15 #[.int .i64 n] w fun e w' => e = .returned (.int .u16 (2 ^ n : Nat)) ∧ w' = w := by
  go_enter Tryd.func15, Tryd.ntmps15
  go_wp2
  go_loopw [3, 4] (fun x j wr => ∃ k : Nat, k ≤ n ∧ x = .int .u16 (2 ^ k : Nat) ∧ j = .int .i64 k ∧ wr = w) (fun _ j _ => n - (intOf j).toNat)
  case atStart => exact ⟨0, Nat.zero_le _, by simp, rfl, rfl⟩
  case round =>
    obtain ⟨k, hk, rfl, rfl, rfl⟩ := hrel
    obtain ⟨x, hx⟩ : ∃ x, 2 ^ k = x := ⟨_, rfl⟩
    have HX : Hid (2 ^ k = x) := hx
    rw [hx]
    by_cases hkn : k < n
    · have hx16 : x < 32768 := by rw [← hx]; exact Nat.pow_lt_pow_right (n := 15) (by omega) (by omega)
      clear hx
      go_wp2
      go_roundw
      case rel => exact ⟨k + 1, by omega, by rw [Nat.pow_succ, HX.out]; go_num, by go_num, by first | rfl | trivial⟩
      case measure => simp [intOf]; omega
    · obtain rfl : k = n := by omega
      clear hx
      go_wp2
      go_ret
      exact ⟨ret_int (by rw [← HX.out]), rfl⟩

/-- what Pick says -/
def pickV (m : Nat) (f n : Int) : Int := if 1 ≤ n ∧ n ≤ 16 ∧ 0 ≤ f ∧ f < n then Mask.pick m f.toNat n.toNat else -1
theorem pickV_in {m f n : Nat} (hn : n ≤ 16) (hf : f < n) : pickV m f n = Mask.pick m f n := by
  unfold pickV
  rw [if_pos (by omega)]
  rfl
theorem pickV_out {m : Nat} {f n : Int} (h : ¬ (1 ≤ n ∧ n ≤ 16 ∧ 0 ≤ f ∧ f < n)) : pickV m f n = -1 := by
  unfold pickV
  rw [if_neg h]

set_option maxRecDepth 100000 in
set_option maxHeartbeats 1000000 in
theorem refPick_any (m : Nat) (hm : m < 65536) (f n : Int) (w : World) :
    Calls Tryd.prog 35 #[.int .u16 m, .int .i64 f, .int .i64 n] w fun e w' => e = .returned (.int .i64 (pickV m f n)) ∧ w' = w := by
  by_cases h : 1 ≤ n ∧ n ≤ 16 ∧ 0 ≤ f ∧ f < n
  · obtain ⟨h1, h2, h3, h4⟩ := h
    obtain ⟨n, rfl⟩ := Int.eq_ofNat_of_zero_le (show 0 ≤ n by omega)
    obtain ⟨f, rfl⟩ := Int.eq_ofNat_of_zero_le h3
    have hn : n ≤ 16 := by omega
    have hf : f < n := by omega
    rw [pickV_in hn hf]
    have d1 : decide ((n : Int) < 1) = false := decide_eq_false (by omega)
    have d2 : decide ((16 : Int) < (n : Int)) = false := decide_eq_false (by omega)
    have d3 : decide ((f : Int) < 0) = false := decide_eq_false (by omega)
    have d4 : decide (n ≤ f) = false := decide_eq_false (by omega)
    go_enter Tryd.func35, Tryd.ntmps35
    go_wp2
    go_loopw [7] (fun j wr => ∃ k : Nat, k ≤ n ∧ j = .int .i64 k ∧ wr = w ∧ ∀ i, i < k → m.testBit ((f + i) % n) = false) (fun j _ => n - (intOf j).toNat)
    case atStart => exact ⟨0, Nat.zero_le _, rfl, rfl, fun i hi => absurd hi (by omega)⟩
    case round =>
      obtain ⟨k, hk, rfl, rfl, hno⟩ := hrel
      have HN : Hid (∀ i, i < k → m.testBit ((f + i) % n) = false) := hno
      clear hno
      by_cases hkn : k < n
      · obtain ⟨x, hx⟩ : ∃ x, (f + k) % n = x := ⟨_, rfl⟩
        have hxn : x < n := by rw [← hx]; exact Nat.mod_lt _ (by omega)
        have e1 : ((f : Int) + (k : Int)) % (n : Int) = (x : Nat) := by rw [← hx]; simp
        have HX : Hid ((f + k) % n = x) := hx
        clear hx
        have hb := hasB_nat (m := m) (show x < 16 by omega)
        obtain ⟨b, hb2⟩ : ∃ b, m.testBit x = b := ⟨_, rfl⟩
        rw [hb2] at hb
        have HB : Hid (m.testBit x = b) := hb2
        clear hb2
        cases b with
        | true =>
          go_wp2_with (go_at_call 21; refine (refHas_any m hm _ _).mono ?_; rintro e w' ⟨rfl, rfl⟩)
          go_ret
          refine ⟨ret_int ?_, rfl⟩
          rw [Mask.pick_some hkn HN.out (by rw [HX.out]; exact HB.out), HX.out]
        | false =>
          go_wp2_with (go_at_call 21; refine (refHas_any m hm _ _).mono ?_; rintro e w' ⟨rfl, rfl⟩)
          go_roundw
          case rel =>
            have hall : ∀ i, i < k + 1 → m.testBit ((f + i) % n) = false := fun i hi => by
              rcases Nat.lt_or_ge i k with h' | h'
              · exact HN.out i h'
              · obtain rfl : i = k := by omega
                rw [HX.out]; exact HB.out
            first
              | exact ⟨k + 1, by omega, by go_num, by first | rfl | trivial, hall⟩
              | ((repeat apply Exists.intro); exact ⟨⟨k + 1, by omega, by go_num, by first | rfl | trivial, hall⟩, rfl⟩)
          case measure => simp [intOf]; omega
      · obtain rfl : k = n := by omega
        go_wp2
        go_ret
        exact ⟨ret_int (Mask.pick_none HN.out).symm, rfl⟩
  · rw [pickV_out h]
    by_cases h1 : n < 1
    · go_enter Tryd.func35, Tryd.ntmps35
      go_wp2
      go_ret
      exact ⟨rfl, rfl⟩
    · by_cases h2 : 16 < n
      · go_enter Tryd.func35, Tryd.ntmps35
        go_wp2
        go_ret
        exact ⟨rfl, rfl⟩
      · by_cases h3 : f < 0
        · go_enter Tryd.func35, Tryd.ntmps35
          go_wp2
          go_ret
          exact ⟨rfl, rfl⟩
        · have h4 : n ≤ f := by omega
          go_enter Tryd.func35, Tryd.ntmps35
          go_wp2
          go_ret
          exact ⟨rfl, rfl⟩
end Go.Proofs.YtlojadodabddpaaDoor
