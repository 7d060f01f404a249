/-
  From each node of a path the next lies behind a port. Conditions: none.
-/
import Derived.Test.YtipdcpekepiphaaTreePartsWalk
namespace Go.Proofs.Ytipdcpekepiphaa
open Go.ChangeShapes Go.WideShapes Go.ChangeAt Go.RowKit
set_option linter.unusedVariables false

namespace Tree
def q_port (ps : List Int) (v w : Nat) : Bool := (List.range (path ps v w).length).all fun i => decide (i = 0) || decide (0 ≤ Plan.port (edges ps) ((path ps v w).getD (i - 1) 0) ((path ps v w).getD i 0))
theorem ports_all : ask2 q_port = true := by decide +kernel
theorem port_ok {ps : List Int} (ho : ok ps = true) {v w : Nat} (hv : v ≤ ps.length) (hw : w ≤ ps.length) {i : Nat} (h0 : 0 < i) (hi : i < (path ps v w).length) : 0 ≤ Plan.port (edges ps) ((path ps v w).getD (i - 1) 0) ((path ps v w).getD i 0) := by
  have h := of_ask2 ports_all ho hv hw
  unfold q_port at h
  simp only [Bool.or_eq_true, decide_eq_true_eq, List.all_eq_true, List.mem_range] at h
  rcases h i hi with h | h
  · omega
  · exact h
theorem rev_at {L : List Int} {k i : Nat} (hk : L.length = k) (hi : i < k) : L.reverse.getD (k - 1 - i) 0 = L.getD i 0 := by
  subst hk
  rw [List.getD_eq_getElem?_getD, List.getD_eq_getElem?_getD, List.getElem?_reverse (by omega), show L.length - 1 - (L.length - 1 - i) = i by omega]
theorem once_at {L : List Int} (h : L.Nodup) {i j : Nat} (hj : j < i) (hi : i < L.length) : L.getD j 0 ≠ L.getD i 0 := by
  have := List.pairwise_iff_getElem.1 h j i (by omega) hi hj
  rw [List.getD_eq_getElem?_getD, List.getElem?_eq_getElem (show j < L.length by omega), List.getD_eq_getElem?_getD, List.getElem?_eq_getElem hi]
  exact this
end Tree
end Go.Proofs.Ytipdcpekepiphaa
