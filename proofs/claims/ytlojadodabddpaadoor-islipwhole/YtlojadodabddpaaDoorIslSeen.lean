/-
  Which outputs have been seen among the first inputs' ones; arguments of the laws over rows of requests. Conditions: none.
-/
import Derived.Test.YtlojadodabddpaaDoorIslArg
namespace Go.Proofs.YtlojadodabddpaaDoor
open Go.ChangeShapes Go.WideShapes Go.ChangeAt Go.RowKit
set_option linter.unusedVariables false

theorem getD_lt {l : List Nat} {k n : Nat} (h : ∀ x ∈ l, x < n) (hn : 0 < n) : l.getD k 0 < n := by
  rw [List.getD_eq_getElem?_getD]
  by_cases hk : k < l.length
  · rw [List.getElem?_eq_getElem hk]; exact h _ (List.getElem_mem hk)
  · rw [List.getElem?_eq_none (by omega)]; exact hn
namespace Isl
theorem taken_succ (j : Nat) (m : Nat → Int) (o : Nat) : taken (j + 1) m o = (taken j m o || decide (m j = (o : Nat))) := by
  simp [taken, List.range_succ]
def seenF (m : Nat → Int) (j : Nat) : Nat → Int := fun o => if taken j m o = true then 1 else 0
theorem seen_zero (m : Nat → Int) (o : Nat) : seenF m 0 o = 0 := by simp [seenF, taken]
theorem seen_miss {m : Nat → Int} {j : Nat} (h : m j < 0) (o : Nat) : seenF m j o = seenF m (j + 1) o := by
  unfold seenF
  rw [taken_succ, decide_eq_false (p := m j = (o : Nat)) (by omega), Bool.or_false]
theorem seen_hit {m : Nat → Int} {j o : Nat} (h : m j = (o : Nat)) (x : Nat) : (if x = o then (1 : Int) else seenF m j x) = seenF m (j + 1) x := by
  unfold seenF
  rw [taken_succ]
  by_cases e : x = o
  · subst e; rw [if_pos rfl, decide_eq_true h, Bool.or_true, if_pos rfl]
  · rw [if_neg e, decide_eq_false (p := m j = (x : Nat)) (by omega), Bool.or_false]
theorem seen_new {R : Nat → Nat} {n : Nat} {m : Nat → Int} (hk : Ok R n m) {j o : Nat} (h : m j = (o : Nat)) : seenF m j o = 0 := by
  unfold seenF
  rw [if_neg]
  intro ht
  obtain ⟨i, hi, e⟩ := taken_iff.1 ht
  have := hk.one i j o e h
  omega
end Isl
end Go.Proofs.YtlojadodabddpaaDoor
