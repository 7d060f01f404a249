/-
  What the functions of packages serial and shunterref01, and the helper known of package shunterlaw01, come to, for all numbers of their kinds: Less and Widen of the program as the chapter says it, and so the document's own. Conditions: none but that the numbers are of their kinds.
-/
import Derived.Test.YtmlledhhegjiiaaRows
import Derived.WalkKit
import Derived.ProofKit
import Derived.OpenShut
namespace Go.Proofs.Ytmlledhhegjiiaa
open Go.ChangeShapes Go.WideShapes Go.ChangeAt Go.RowKit
set_option linter.unusedVariables false

def lessB (a b : Int) : Bool := decide (1 ≤ (b - a) % 65536 ∧ (b - a) % 65536 ≤ 32767)
def widI (a b : Int) : Int := ((a - 32768) % 18446744073709551616 + (b - (a - 32768)) % 65536) % 18446744073709551616

theorem lessB_true {a b : Int} (h : 1 ≤ (b - a) % 65536) (h' : (b - a) % 65536 ≤ 32767) : lessB a b = true := by
  unfold lessB; exact decide_eq_true ⟨h, h'⟩
theorem lessB_false {a b : Int} (h : (b - a) % 65536 < 1 ∨ 32767 < (b - a) % 65536) : lessB a b = false := by
  unfold lessB; exact decide_eq_false (by omega)
theorem ret_bool {a b : Bool} (h : a = b) : Ending.returned (.bool a) = .returned (.bool b) := by rw [h]
theorem ret_int {k : IntKind} {a b : Int} (h : a = b) : Ending.returned (.int k a) = .returned (.int k b) := by rw [h]

set_option maxHeartbeats 400000 in
theorem less_any (a b : Int) (a0 : 0 ≤ a) (a1 : a ≤ 65535) (b0 : 0 ≤ b) (b1 : b ≤ 65535) (w : World) :
    Calls Try.prog 13 #[.int .u16 a, .int .u16 b] w fun e w' => e = .returned (.bool (lessB a b)) ∧ w' = w := by
  go_enter Try.func13, Try.ntmps13
  go_wp2
  · rename_i h
    go_ret
    rw [IntKind.wrap_u16] at h
    refine ⟨ret_bool ?_, rfl⟩
    rw [IntKind.wrap_u16]; unfold lessB; exact decide_eq_decide.2 (by omega)
  · rename_i h
    go_ret
    rw [IntKind.wrap_u16] at h
    exact ⟨ret_bool (lessB_false (a := a) (b := b) (by omega)).symm, rfl⟩

theorem wid_eq (a b : Int) : IntKind.u64.wrap
              (IntKind.u64.wrap (a - 32768) +
                IntKind.u64.wrap (IntKind.u16.wrap (IntKind.u64.wrap (b - IntKind.u64.wrap (a - 32768))))) = widI a b := by
  simp only [IntKind.wrap_u64, IntKind.wrap_u16, widI]; omega
theorem rwid_eq (a b : Int) (b0 : 0 ≤ b) (b1 : b ≤ 65535) : (IntKind.u64.wrap
              (IntKind.u64.wrap (a - 32768) +
                (IntKind.u64.wrap (b + 65536 - (IntKind.u64.wrap (a - 32768)).tmod 65536)).tmod 65536)) = widI a b := by
  simp only [IntKind.wrap_u64, widI]
  rw [Int.tmod_eq_emod_of_nonneg (by omega), Int.tmod_eq_emod_of_nonneg (by omega)]
  omega

set_option maxHeartbeats 400000 in
theorem widen_any (a b : Int) (a0 : 0 ≤ a) (a1 : a ≤ 18446744073709551615) (b0 : 0 ≤ b) (b1 : b ≤ 65535) (w : World) :
    Calls Try.prog 14 #[.int .u64 a, .int .u16 b] w fun e w' => e = .returned (.int .u64 (widI a b)) ∧ w' = w := by
  go_enter Try.func14, Try.ntmps14
  go_wp2
  go_ret
  exact ⟨ret_int (wid_eq a b), rfl⟩

theorem less_yes (a b : Int) (h : 0 ≤ a ∧ a ≤ 65535 ∧ 0 ≤ b ∧ b ≤ 65535 ∧ 1 ≤ (b - a) % 65536 ∧ (b - a) % 65536 ≤ 32767) (w : World) :
    Calls Try.prog 13 #[.int .u16 a, .int .u16 b] w fun e w' => e = .returned (.bool true) ∧ w' = w := by
  have := less_any a b (by omega) (by omega) (by omega) (by omega) w
  rwa [lessB_true (by omega) (by omega)] at this
theorem less_no (a b : Int) (h : 0 ≤ a ∧ a ≤ 65535 ∧ 0 ≤ b ∧ b ≤ 65535 ∧ ((b - a) % 65536 < 1 ∨ 32767 < (b - a) % 65536)) (w : World) :
    Calls Try.prog 13 #[.int .u16 a, .int .u16 b] w fun e w' => e = .returned (.bool false) ∧ w' = w := by
  have := less_any a b (by omega) (by omega) (by omega) (by omega) w
  rwa [lessB_false (by omega)] at this
/-- Widen near a: the one v that is b modulo 65536 and lies from a - 32768 on, below a + 32768, all modulo 2^64. -/
theorem widen_is (a b v : Int) (h : 0 ≤ a ∧ a ≤ 18446744073709551615 ∧ 0 ≤ b ∧ b ≤ 65535 ∧ 0 ≤ v ∧ v ≤ 18446744073709551615 ∧ (v - b) % 65536 = 0 ∧ (v - (a - 32768)) % 18446744073709551616 < 65536) (w : World) :
    Calls Try.prog 14 #[.int .u64 a, .int .u16 b] w fun e w' => e = .returned (.int .u64 v) ∧ w' = w := by
  have := widen_any a b (by omega) (by omega) (by omega) (by omega) w
  rwa [show widI a b = v by unfold widI; omega] at this
theorem widen_ex (a b : Int) (h : 0 ≤ a ∧ a ≤ 18446744073709551615 ∧ 0 ≤ b ∧ b ≤ 65535) (w : World) :
    Calls Try.prog 14 #[.int .u64 a, .int .u16 b] w fun e w' => ∃ v, e = .returned (.int .u64 v) ∧ w' = w ∧ 0 ≤ v ∧ v ≤ 18446744073709551615 ∧ (v - b) % 65536 = 0 ∧ (v - (a - 32768)) % 18446744073709551616 < 65536 := by
  refine (widen_any a b (by omega) (by omega) (by omega) (by omega) w).mono ?_
  rintro e w' ⟨rfl, rfl⟩
  exact ⟨widI a b, rfl, rfl, by unfold widI; omega, by unfold widI; omega, by unfold widI; omega, by unfold widI; omega⟩
end Go.Proofs.Ytmlledhhegjiiaa
