/-
  Trees as plain lists of parents: the way up, paths, edges, ways. Conditions: none.
-/
import Derived.Test.YtphaaolnmbadcaaPlanMath
namespace Go.Proofs.Ytphaaolnmbadcaa.Tree
set_option linter.unusedVariables false

/-- each parent is below its node -/
def low (ps : List Int) : Bool := (List.range ps.length).all fun i => decide (0 ≤ ps.getD i 0) && decide (ps.getD i 0 ≤ (i : Int))
def ok (ps : List Int) : Bool := low ps && decide (ps.length ≤ 5)
def par (ps : List Int) (v : Nat) : Nat := (ps.getD (v - 1) 0).toNat
/-- from a node to 0 -/
def ups (ps : List Int) : Nat → Nat → List Int
  | 0, v => [(v : Int)]
  | f + 1, v => if v = 0 then [0] else (v : Int) :: ups ps f (par ps v)
/-- both ends cut off as long as the last but one are the same -/
def strip : Nat → List Int → List Int → List Int × List Int
  | 0, a, b => (a, b)
  | f + 1, a, b => if 1 < a.length ∧ 1 < b.length ∧ a.getD (a.length - 2) 0 = b.getD (b.length - 2) 0 then strip f a.dropLast b.dropLast else (a, b)
def join (x : List Int × List Int) : List Int := x.1 ++ x.2.dropLast.reverse
def path (ps : List Int) (v w : Nat) : List Int := join (strip 6 (ups ps 6 v) (ups ps 6 w))
def isNode (ps : List Int) (z : Int) : Bool := decide (0 ≤ z) && decide (z ≤ (ps.length : Int))
def pathOf (ps : List Int) (v w : Int) : List Int := if ok ps && isNode ps v && isNode ps w then path ps v.toNat w.toNat else []
def edges (ps : List Int) : List (Int × Int) := (List.range ps.length).map fun i => (ps.getD i 0, ((i + 1 : Nat) : Int))
def way (ps : List Int) (v w : Nat) : Int := if v = w then (v : Int) else (path ps v w).getD 1 0
def row (ps : List Int) (v : Nat) : List Int := (List.range (ps.length + 1)).map (way ps v)
def rows (ps : List Int) : List (List Int) := (List.range (ps.length + 1)).map (row ps)
def layOk (ps : List Int) : Bool := ok ps && decide (ps.length ≠ 0)

/-- all trees of n parents -/
def trees : Nat → List (List Int)
  | 0 => [[]]
  | n + 1 => (trees n).flatMap fun t => (List.range (n + 1)).map fun (k : Nat) => t ++ [(k : Int)]
theorem low_iff (ps : List Int) : low ps = true ↔ ∀ i, i < ps.length → 0 ≤ ps.getD i 0 ∧ ps.getD i 0 ≤ (i : Int) := by
  unfold low
  rw [List.all_eq_true]
  constructor
  · intro h i hi
    have := h i (List.mem_range.2 hi)
    simpa using this
  · intro h i hi
    have := h i (List.mem_range.1 hi)
    simpa using this
theorem mem_trees : ∀ (n : Nat) (ps : List Int), ps.length = n → low ps = true → ps ∈ trees n
  | 0, ps, h, _ => by
    have : ps = [] := List.length_eq_zero_iff.1 h
    subst this
    exact List.mem_singleton.2 rfl
  | n + 1, ps, h, hl => by
    have hne : ps ≠ [] := by intro e; subst e; simp at h
    obtain ⟨t, x, rfl⟩ : ∃ t x, ps = t ++ [x] := ⟨ps.dropLast, ps.getLast hne, (List.dropLast_concat_getLast hne).symm⟩
    have ht : t.length = n := by simpa using h
    rw [low_iff] at hl
    have hx := hl n (by simp [ht])
    have ex : (t ++ [x]).getD n 0 = x := by rw [List.getD_eq_getElem?_getD, List.getElem?_append_right (by omega), ht]; simp
    rw [ex] at hx
    have h1 : low t = true := by
      rw [low_iff]
      intro i hi
      have := hl i (by simp; omega)
      rw [List.getD_eq_getElem?_getD, List.getElem?_append_left hi] at this
      rw [List.getD_eq_getElem?_getD]
      exact this
    unfold trees
    rw [List.mem_flatMap]
    refine ⟨t, mem_trees n t ht h1, List.mem_map.2 ⟨x.toNat, List.mem_range.2 (by omega), ?_⟩⟩
    congr 2
    omega
/-- what holds of all trees in the list holds of each tree of at most five parents -/
def all5 : List (List Int) := trees 0 ++ trees 1 ++ trees 2 ++ trees 3 ++ trees 4 ++ trees 5
theorem mem_all5 {ps : List Int} (h : ok ps = true) : ps ∈ all5 := by
  unfold ok at h
  rw [Bool.and_eq_true, decide_eq_true_eq] at h
  obtain ⟨h1, h2⟩ := h
  have hm := mem_trees ps.length ps rfl h1
  unfold all5
  simp only [List.mem_append]
  rcases Nat.lt_or_ge ps.length 1 with e | e
  · rw [show ps.length = 0 by omega] at hm; exact .inl (.inl (.inl (.inl (.inl hm))))
  rcases Nat.lt_or_ge ps.length 2 with e | e
  · rw [show ps.length = 1 by omega] at hm; exact .inl (.inl (.inl (.inl (.inr hm))))
  rcases Nat.lt_or_ge ps.length 3 with e | e
  · rw [show ps.length = 2 by omega] at hm; exact .inl (.inl (.inl (.inr hm)))
  rcases Nat.lt_or_ge ps.length 4 with e | e
  · rw [show ps.length = 3 by omega] at hm; exact .inl (.inl (.inr hm))
  rcases Nat.lt_or_ge ps.length 5 with e | e
  · rw [show ps.length = 4 by omega] at hm; exact .inl (.inr hm)
  · rw [show ps.length = 5 by omega] at hm; exact .inr hm
/-- a question of a tree and two of its nodes, asked of all of them -/
def ask2 (q : List Int → Nat → Nat → Bool) : Bool := all5.all fun ps => (List.range (ps.length + 1)).all fun v => (List.range (ps.length + 1)).all fun w => q ps v w
theorem of_ask2 {q : List Int → Nat → Nat → Bool} (h : ask2 q = true) {ps : List Int} (ho : ok ps = true) {v w : Nat} (hv : v ≤ ps.length) (hw : w ≤ ps.length) : q ps v w = true := by
  unfold ask2 at h
  rw [List.all_eq_true] at h
  have h1 := h ps (mem_all5 ho)
  rw [List.all_eq_true] at h1
  have h2 := h1 v (List.mem_range.2 (by omega))
  rw [List.all_eq_true] at h2
  exact h2 w (List.mem_range.2 (by omega))
end Go.Proofs.Ytphaaolnmbadcaa.Tree
