/-
  What the document's own Less and Widen (package shunterref01), and the helper known of package shunterlaw01, come to, for all numbers of their kinds: the same as the program's. Conditions: none but that the numbers are of their kinds.
-/
import Derived.Test.YtmlledhhegjiiaaSerialCalls
namespace Go.Proofs.Ytmlledhhegjiiaa
open Go.ChangeShapes Go.WideShapes Go.ChangeAt Go.RowKit
set_option linter.unusedVariables false

set_option maxHeartbeats 400000 in
theorem rless_any (a b : Int) (a0 : 0 ≤ a) (a1 : a ≤ 65535) (b0 : 0 ≤ b) (b1 : b ≤ 65535) (w : World) :
    Calls Try.prog 15 #[.int .u16 a, .int .u16 b] w fun e w' => e = .returned (.bool (lessB a b)) ∧ w' = w := by
  go_enter Try.func15, Try.ntmps15
  go_wp2
  · rename_i h
    go_ret
    refine ⟨ret_bool ?_, rfl⟩
    unfold lessB; exact decide_eq_decide.2 (by omega)
  · rename_i h
    go_ret
    exact ⟨ret_bool (lessB_false (a := a) (b := b) (by omega)).symm, rfl⟩

set_option maxHeartbeats 400000 in
theorem rwiden_any (a b : Int) (a0 : 0 ≤ a) (a1 : a ≤ 18446744073709551615) (b0 : 0 ≤ b) (b1 : b ≤ 65535) (w : World) :
    Calls Try.prog 16 #[.int .u64 a, .int .u16 b] w fun e w' => e = .returned (.int .u64 (widI a b)) ∧ w' = w := by
  go_enter Try.func16, Try.ntmps16
  go_wp2
  go_ret
  exact ⟨ret_int (rwid_eq a b b0 b1), rfl⟩

set_option maxHeartbeats 400000 in
theorem known_any (w : World) : Calls Try.prog 12 #[] w fun e w' => e = .returned (.bool true) ∧ w' = w := by
  go_enter Try.func12, Try.ntmps12
  go_wp2
  go_ret
  exact ⟨rfl, rfl⟩
end Go.Proofs.Ytmlledhhegjiiaa
