/-
  slices.Sort and slices.Compact at a row of numbers of the call's own; sorted and compacted it is who is beside a node. Conditions: none.
-/
import Derived.Test.YtphaaolnmbadcaaLays
import Derived.Test.YtphaaolnmbadcaaRefPlanB
import Derived.Sort.OwnSortedInts
import Derived.Lib.OwnBridge
import Derived.Lib.RowBridge
import Derived.Lib.SlicesCompact
import Derived.Shelf.Sort.Plain
import Derived.Shelf.Slices.CompactI
import Derived.Shelf.Slices.In.SortNone
namespace Go.Proofs.Ytphaaolnmbadcaa
open Go.ChangeShapes Go.WideShapes Go.ChangeAt Go.RowKit Go.Sort
set_option linter.unusedVariables false

namespace Plan
def sorted (l : List Int) : List Int := l.mergeSort fun x y => decide (x ≤ y)
theorem sorted_len (l : List Int) : (sorted l).length = l.length := List.length_mergeSort l
theorem sorted_mem (l : List Int) (x : Int) : x ∈ sorted l ↔ x ∈ l := List.mem_mergeSort
theorem sorted_up (l : List Int) : (sorted l).Pairwise (· ≤ ·) := by
  have h := List.pairwise_mergeSort (le := fun x y : Int => decide (x ≤ y)) (fun a b c h1 h2 => by simp only [decide_eq_true_eq] at h1 h2 ⊢; omega) (fun a b => by simp only [Bool.or_eq_true, decide_eq_true_eq]; omega) l
  exact h.imp (fun h => of_decide_eq_true h)
theorem up_at {l : List Int} (h : l.Pairwise (· ≤ ·)) {i j : Nat} (hij : i ≤ j) (hj : j < l.length) : l.toArray[i]! ≤ l.toArray[j]! := by
  rw [getElem!_pos l.toArray i (by simp; omega), getElem!_pos l.toArray j (by simp; omega)]
  simp only [List.getElem_toArray]
  by_cases e : i = j
  · subst e; omega
  · exact List.pairwise_iff_getElem.1 h i j (by omega) hj (by omega)
theorem compact_is {l : List Int} (h : l.Pairwise (· ≤ ·)) : ∀ m, m ≤ l.length → Asc (Lib.compactUpTo l.toArray m) ∧ (∀ x, x ∈ Lib.compactUpTo l.toArray m ↔ ∃ j, j < m ∧ x = l.toArray[j]!)
  | 0, _ => by
    constructor
    · simp [Lib.compactUpTo, Asc]
    · intro x
      simp [Lib.compactUpTo]
  | m + 1, hm => by
    obtain ⟨h1, h2⟩ := compact_is h m (by omega)
    rw [Lib.compactUpTo_succ]
    by_cases hk : Lib.keeps l.toArray m = true
    · rw [if_pos hk]
      constructor
      · unfold Asc
        rw [List.pairwise_append]
        refine ⟨h1, List.pairwise_singleton _ _, fun a ha b hb => ?_⟩
        rw [List.mem_singleton] at hb
        subst hb
        obtain ⟨j, hj, rfl⟩ := (h2 a).1 ha
        have h3 := up_at h (show j ≤ m - 1 by omega) (by omega)
        have h4 := up_at h (show m - 1 ≤ m by omega) (by omega)
        have h5 : l.toArray[m]! ≠ l.toArray[m - 1]! := by
          unfold Lib.keeps at hk
          rcases of_decide_eq_true hk with e | e
          · omega
          · exact e
        omega
      · intro x
        rw [List.mem_append, h2, List.mem_singleton]
        constructor
        · rintro (⟨j, hj, e⟩ | e)
          · exact ⟨j, by omega, e⟩
          · exact ⟨m, by omega, e⟩
        · rintro ⟨j, hj, e⟩
          by_cases e2 : j = m
          · subst e2; exact .inr e
          · exact .inl ⟨j, by omega, e⟩
    · rw [if_neg hk, List.append_nil]
      refine ⟨h1, fun x => ?_⟩
      rw [h2]
      have h5 : 0 < m ∧ l.toArray[m]! = l.toArray[m - 1]! := by
        unfold Lib.keeps at hk
        have hk := of_decide_eq_false (Bool.not_eq_true _ ▸ hk)
        constructor
        · rcases Nat.eq_zero_or_pos m with e | e
          · exact absurd (.inl e) hk
          · exact e
        · by_cases e : l.toArray[m]! = l.toArray[m - 1]!
          · exact e
          · exact absurd (.inr e) hk
      constructor
      · rintro ⟨j, hj, e⟩
        exact ⟨j, by omega, e⟩
      · rintro ⟨j, hj, e⟩
        by_cases e2 : j = m
        · subst e2; exact ⟨j - 1, by omega, by rw [e, h5.2]⟩
        · exact ⟨j, by omega, e⟩
/-- who is beside v, by sorting and compacting -/
theorem bes_sorted (es : List (Int × Int)) (v : Int) (l : List Int) (hl : ∀ x, x ∈ l ↔ x ∈ raw es v) : Lib.compact (sorted l) = bes es v := by
  obtain ⟨h1, h2⟩ := compact_is (sorted_up l) (sorted l).length (Nat.le_refl _)
  refine asc_ext _ _ h1 (bes_asc es v) (fun x => ?_)
  show x ∈ Lib.compactUpTo (sorted l).toArray (sorted l).length ↔ _
  rw [h2, mem_bes, ← mem_raw, ← hl, ← sorted_mem]
  constructor
  · rintro ⟨j, hj, rfl⟩
    rw [getElem!_pos (sorted l).toArray j (by simpa using hj)]
    simp
  · intro hx
    obtain ⟨j, hj, rfl⟩ := List.getElem_of_mem hx
    exact ⟨j, hj, by rw [getElem!_pos (sorted l).toArray j (by simpa using hj)]; simp⟩
end Plan
theorem sort_own {w : World} {base : Nat} {v : Value} {l : List Int} (h : w.ownsRow base 3 1 v l.length (zcells l)) (hl : l.length ≤ 17592186044416) :
    Calls Try.prog 57 #[v] w fun e w' => e = .returned (.tuple #[]) ∧ w'.ownsRow base 3 1 v (Plan.sorted l).length (zcells (Plan.sorted l)) ∧ Below base w w' := by
  rcases h.2 with ⟨hv, h0⟩ | ⟨g, cap, cur, hv, hb, hg, hnc, hcm, hcs, htake⟩
  · subst hv
    have : l = [] := List.length_eq_zero_iff.1 h0
    subst this
    refine (Any.slices_Sort_int_none Try.lays189 none 0 w).mono ?_
    rintro e w' ⟨rfl, rfl⟩
    have e0 : Plan.sorted [] = [] := by simp [Plan.sorted]
    rw [e0]
    exact ⟨rfl, h, Below.refl _ _⟩
  · subst hv
    have hlt : g < w.heap.size := by
      rcases Nat.lt_or_ge g w.heap.size with h' | h'
      · exact h'
      · simp [Array.getElem?_eq_none h'] at hg
    have hH := holds_of_blockI (ss := l) hg (by rw [Nat.mul_one] at htake; exact htake)
    refine (Any.slices_Sort_int Try.lays189 g 0 cap l w hH hlt (by omega)).mono ?_
    rintro e w' ⟨rfl, n, os, rfl⟩
    refine ⟨rfl, ?_, ?_⟩
    · rw [Plan.sorted_len]
      exact ownsRow_sortedI (Plan.sorted_len l) hb hg hnc hcm hcs
    · exact (Below.refl base w).grown (grownBy_sortedI _) (by omega) (fun k hk => by cases hk; exact hb)
theorem compact_own {w : World} {base : Nat} {v : Value} {l : List Int} (h : w.ownsRow base 3 1 v l.length (zcells l)) (hl : l.length ≤ 17592186044416) :
    Calls Try.prog 58 #[v] w fun e w' => ∃ v', e = .returned v' ∧ w'.ownsRow base 3 1 v' (Lib.compact l).length (zcells (Lib.compact l)) ∧ Below base w w' := by
  rcases h.2 with ⟨hv, h0⟩ | ⟨g, cap, cur, hv, hb, hg, hnc, hcm, hcs, htake⟩
  · subst hv
    have : l = [] := List.length_eq_zero_iff.1 h0
    subst this
    refine (Any.slices_Compact_int_empty Try.laysNm220 none 0 w).mono ?_
    rintro e w' ⟨rfl, rfl⟩
    have e0 : Lib.compact ([] : List Int) = [] := by simp [Lib.compact, Lib.compactUpTo]
    rw [e0]
    exact ⟨_, rfl, h, Below.refl _ _⟩
  · subst hv
    have hH := holds_of_blockI (ss := l) hg (by rw [Nat.mul_one] at htake; exact htake)
    refine (Any.slices_Compact_int Try.laysNm220 g 0 cap l w hH (by omega) hnc).mono ?_
    rintro e w' ⟨rfl, q, rfl⟩
    have hle := Lib.compact_length_le l
    have hc := Lib.ownsRow_putRow (q := q) (k := (Lib.compact l).length) (ys := Lib.compact l ++ List.replicate (l.length - (Lib.compact l).length) 0) h (by simp; omega) (by omega)
    rw [List.take_left] at hc
    exact ⟨_, rfl, hc, Lib.below_putRow (Below.refl base w) hb⟩
end Go.Proofs.Ytphaaolnmbadcaa
