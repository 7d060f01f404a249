/-
  serial.Widen, in a seat that has no other function of package serial: what it comes to for all numbers of their kinds. Conditions: none but that the numbers are of their kinds.
-/
import Derived.Test.YtcmfnhakmjginaaOctets
namespace Go.Proofs.Ytcmfnhakmjginaa
open Go.ChangeShapes Go.WideShapes Go.ChangeAt Go.RowKit
set_option linter.unusedVariables false

def widI (a b : Int) : Int := ((a - 32768) % 18446744073709551616 + (b - (a - 32768)) % 65536) % 18446744073709551616
theorem wid_eq (a b : Int) : IntKind.u64.wrap
              (IntKind.u64.wrap (a - 32768) +
                IntKind.u64.wrap (IntKind.u16.wrap (IntKind.u64.wrap (b - IntKind.u64.wrap (a - 32768))))) = widI a b := by
  simp only [IntKind.wrap_u64, IntKind.wrap_u16, widI]; omega
set_option maxHeartbeats 400000 in
theorem widen_any (a b : Int) (a0 : 0 ≤ a) (a1 : a ≤ 18446744073709551615) (b0 : 0 ≤ b) (b1 : b ≤ 65535) (w : World) :
    Calls Try.prog 20 #[.int .u64 a, .int .u16 b] w fun e w' => e = .returned (.int .u64 (widI a b)) ∧ w' = w := by
  go_enter Try.func20, Try.ntmps20
  go_wp2
  go_ret
  exact ⟨ret_int (wid_eq a b), rfl⟩
theorem widI_range (a b : Int) : 0 ≤ widI a b ∧ widI a b ≤ 18446744073709551615 := by unfold widI; omega
/-- Widen near a: the one v that is b modulo 65536 and lies from a - 32768 on, below a + 32768. -/
theorem widI_is {a b v : Int} (h0 : 0 ≤ v) (h1 : v ≤ 18446744073709551615) (hm : (v - b) % 65536 = 0) (h2 : a - 32768 ≤ v) (h3 : v < a + 32768) : widI a b = v := by unfold widI; omega
end Go.Proofs.Ytcmfnhakmjginaa
