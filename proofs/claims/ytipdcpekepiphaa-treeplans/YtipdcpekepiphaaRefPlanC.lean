/-
  The document's own plan (package shunterref12): Hops; New of package shunterref11. Conditions: none but that the plan's rows are led to.
-/
import Derived.Test.YtipdcpekepiphaaRefPlanB
namespace Go.Proofs.Ytipdcpekepiphaa
open Go.ChangeShapes Go.WideShapes Go.ChangeAt Go.RowKit
set_option linter.unusedVariables false

namespace Plan
/-- hops of v, to those of the first k beside it -/
def hopsPart (l : List Int) (v : Nat) (k : Nat) : List (Int × Int) := ((l.take k).filter fun u => decide (0 ≤ u) && decide (u < 6)).map fun u => ((v : Int), u)
theorem hopsPart_zero (l : List Int) (v : Nat) : hopsPart l v 0 = [] := rfl
theorem hopsPart_hit {l : List Int} {v k : Nat} (h : k < l.length) (h1 : 0 ≤ l.getD k 0) (h2 : l.getD k 0 < 6) : hopsPart l v (k + 1) = hopsPart l v k ++ [((v : Int), l.getD k 0)] := by
  unfold hopsPart
  have h3 : (decide (0 ≤ l.getD k 0) && decide (l.getD k 0 < 6)) = true := by simp only [h1, h2, decide_true, Bool.and_self]
  rw [take_getD h, List.filter_append, List.map_append, List.filter_cons, h3]
  simp
theorem hopsPart_miss {l : List Int} {v k : Nat} (h : k < l.length) (h1 : ¬ (0 ≤ l.getD k 0 ∧ l.getD k 0 < 6)) : hopsPart l v (k + 1) = hopsPart l v k := by
  unfold hopsPart
  have h3 : (decide (0 ≤ l.getD k 0) && decide (l.getD k 0 < 6)) = false := by
    rw [Bool.and_eq_false_iff]
    by_cases h2 : 0 ≤ l.getD k 0
    · exact .inr (decide_eq_false (fun h => h1 ⟨h2, h⟩))
    · exact .inl (decide_eq_false h2)
  rw [take_getD h, List.filter_append, List.map_append, List.filter_cons, h3]
  simp
theorem hopsPart_all (es : List (Int × Int)) (v : Nat) : hopsPart (bes es v) v (bes es v).length = hopsOf es v := by
  unfold hopsPart hopsOf
  rw [List.take_length]
theorem hopsPart_len {l : List Int} (v k : Nat) (h : Asc l) : (hopsPart l v k).length ≤ 6 := by
  have h1 := few_asc ((l.take k).filter fun u => decide (0 ≤ u) && decide (u < 6)) 0 6 ((List.Pairwise.sublist (List.take_sublist _ _) h).filter _) (fun u hu => by
    have := (List.mem_filter.1 hu).2
    simpa using this) (by omega)
  unfold hopsPart
  rw [List.length_map]
  omega
end Plan
/-- a row that was there lies elsewhere than a new one -/
theorem apart_of {w w2 : World} {a : Option Addr} {l : List Int} {base n size : Nat} {t : TypeId} {v : Value} {xs : List Value} (h : (a = none ∧ l = []) ∨ ∃ g, a = some ⟨g, 0, none⟩ ∧ w.heap.size ≤ g ∧ g < w2.heap.size) (ho : w.ownsRow base t size v n xs) : ∀ ad, a = some ad → v.ownBlock ≠ some ad.block := by
  intro ad e hv
  rcases h with ⟨h1, _⟩ | ⟨g, h1, h2, _⟩
  · rw [h1] at e; cases e
  · rw [h1] at e
    cases e
    have := (ho.lt _ hv).2
    simp only at this
    omega
end Go.Proofs.Ytipdcpekepiphaa
