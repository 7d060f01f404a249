/-
  New of package shunterref11, the document's edges and Check (package shunterref12). Conditions: none but that the plan's rows are led to.
-/
import Derived.Test.YtipdcpekepiphaaRefPlanC
namespace Go.Proofs.Ytipdcpekepiphaa
open Go.ChangeShapes Go.WideShapes Go.ChangeAt Go.RowKit
set_option linter.unusedVariables false

namespace Plan
theorem wsOk_bad {ws : List Int} {k : Nat} (hk : k < ws.length) (h : ¬ (1 ≤ ws.getD k 0 ∧ ws.getD k 0 ≤ 5)) : wsOk ws = false := by
  unfold wsOk
  have : ws.all (fun x => bnd x 1 5) = false := by
    rw [List.all_eq_false]
    refine ⟨ws.getD k 0, ?_, ?_⟩
    · rw [List.getD_eq_getElem?_getD, List.getElem?_eq_getElem hk]
      exact List.getElem_mem hk
    · unfold bnd
      intro hb
      simp only [Bool.and_eq_true, decide_eq_true_eq] at hb
      exact h hb
  rw [this]
  rfl
theorem wsOk_of {ws : List Int} (h : ∀ k, k < ws.length → 1 ≤ ws.getD k 0 ∧ ws.getD k 0 ≤ 5) : wsOk ws = (decide (1 ≤ ws.length) && decide (ws.length ≤ 3)) := by
  unfold wsOk
  have : ws.all (fun x => bnd x 1 5) = true := by
    rw [List.all_eq_true]
    intro x hx
    obtain ⟨k, hk, rfl⟩ := List.getElem_of_mem hx
    have := h k hk
    rw [List.getD_eq_getElem?_getD, List.getElem?_eq_getElem hk] at this
    unfold bnd
    simp only [Bool.and_eq_true, decide_eq_true_eq]
    exact this
  rw [this, Bool.true_and]
end Plan
end Go.Proofs.Ytipdcpekepiphaa
