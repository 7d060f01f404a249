/-
  Ways as plain lists, of which those that lead to none beside are told by -1; whether all come; the rows of waits, place by place. Conditions: none.
-/
import Derived.Test.YtphaaolnmbadcaaRouteDfs
namespace Go.Proofs.Ytphaaolnmbadcaa.Route
set_option linter.unusedVariables false

def cutTo (l : List Int) (x : Int) : Int := if l.contains x then x else -1
def cutRow (l r : List Int) : List Int := r.map (cutTo l)
def cut (es : List (Int × Int)) (rs : List (List Int)) : List (List Int) := (List.range rs.length).map fun v => cutRow (Plan.bes es (v : Nat)) (rs.getD v [])
theorem cut_len (es : List (Int × Int)) (rs : List (List Int)) : (cut es rs).length = rs.length := by simp [cut]
theorem cut_at {es : List (Int × Int)} {rs : List (List Int)} {v : Nat} (h : v < rs.length) : (cut es rs).getD v [] = cutRow (Plan.bes es (v : Nat)) (rs.getD v []) := by
  unfold cut
  rw [List.getD_eq_getElem?_getD, List.getElem?_map, List.getElem?_range h]
  rfl
theorem cutRow_len (l r : List Int) : (cutRow l r).length = r.length := by simp [cutRow]
theorem cutRow_at {l r : List Int} {w : Nat} (h : w < r.length) : (cutRow l r).getD w 0 = cutTo l (r.getD w 0) := by
  unfold cutRow
  rw [List.getD_eq_getElem?_getD, List.getElem?_map, List.getD_eq_getElem?_getD, List.getElem?_eq_getElem h]
  rfl
theorem port_neg {es : List (Int × Int)} {v u : Int} : Plan.port es v u < 0 ↔ u ∉ Plan.bes es v := by
  constructor
  · intro h hu
    have h1 : 1 ≤ Plan.port es v u := Plan.place_mem hu 0
    omega
  · intro h
    by_cases hp : Plan.port es v u < 0
    · exact hp
    · exact absurd (port_pos' hp) h
theorem nx_cut {es : List (Int × Int)} {rs : List (List Int)} {v w : Int} (hv : 0 ≤ v ∧ v < (rs.length : Int)) (hw : 0 ≤ w ∧ w < ((rs.getD v.toNat []).length : Int)) : nx (cut es rs) v w = if Plan.port es v (nx rs v w) < 0 then -1 else nx rs v w := by
  have h1 : ((v.toNat : Nat) : Int) = v := by omega
  have e : nx (cut es rs) v w = cutTo (Plan.bes es v) (nx rs v w) := by
    unfold nx
    rw [cut_at (by omega), cutRow_at (by omega), h1]
  rw [e]
  unfold cutTo
  by_cases hp : Plan.port es v (nx rs v w) < 0
  · rw [if_pos hp, if_neg (by simpa using port_neg.1 hp)]
  · rw [if_neg hp, if_pos (by simpa using port_pos' hp)]
/-- is there a way to each node? -/
def oneCome (es : List (Int × Int)) (rs : List (List Int)) (n : Nat) (v w : Nat) : Bool := decide (go es rs (w : Int) (n - 1) (v : Int) ≠ [])
theorem not_all_come {es : List (Int × Int)} {rs : List (List Int)} {n v w : Nat} (hv : v < n) (hw : w < n) (h : go es rs (w : Int) (n - 1) (v : Int) = []) : ∃ v w : Nat, (v : Int) < (n : Int) ∧ (w : Int) < (n : Int) ∧ v ≠ w ∧ go es rs (w : Int) (((n : Nat) : Int).toNat - 1) (v : Int) = [] := by
  refine ⟨v, w, by omega, by omega, fun e => ?_, by simpa using h⟩
  subst e
  rw [go_self] at h
  cases h
theorem all_come {es : List (Int × Int)} {rs : List (List Int)} {n : Nat} (h : ∀ v, v < n → ∀ w, w < n → go es rs (w : Int) (n - 1) (v : Int) ≠ []) : ¬ ∃ v w : Nat, (v : Int) < (n : Int) ∧ (w : Int) < (n : Int) ∧ v ≠ w ∧ go es rs (w : Int) (((n : Nat) : Int).toNat - 1) (v : Int) = [] := by
  rintro ⟨v, w, h1, h2, _, h3⟩
  exact h v (by omega) w (by omega) (by simpa using h3)
/-- the row of a hop's waits, as far as the first k places -/
def rowTo (N : Nat) (rs : List (List Int)) (l : List (Int × Int)) (a : Int × Int) (k : Nat) : List Int := ((List.range k).filter fun j => wait N rs a (l.getD j (0, 0))).map fun (j : Nat) => (j : Int)
theorem rowTo_zero (N : Nat) (rs : List (List Int)) (l : List (Int × Int)) (a : Int × Int) : rowTo N rs l a 0 = [] := rfl
theorem rowTo_yes {N : Nat} {rs : List (List Int)} {l : List (Int × Int)} {a : Int × Int} {k : Nat} (h : wait N rs a (l.getD k (0, 0)) = true) : rowTo N rs l a (k + 1) = rowTo N rs l a k ++ [(k : Int)] := by
  unfold rowTo
  rw [List.range_succ, List.filter_append, List.map_append, List.filter_cons_of_pos (by exact h)]
  rfl
theorem rowTo_no {N : Nat} {rs : List (List Int)} {l : List (Int × Int)} {a : Int × Int} {k : Nat} (h : wait N rs a (l.getD k (0, 0)) = false) : rowTo N rs l a (k + 1) = rowTo N rs l a k := by
  unfold rowTo
  rw [List.range_succ, List.filter_append, List.map_append, List.filter_cons_of_neg (by rw [h]; decide)]
  simp
theorem rowTo_len (N : Nat) (rs : List (List Int)) (l : List (Int × Int)) (a : Int × Int) (k : Nat) : (rowTo N rs l a k).length ≤ k := by
  unfold rowTo
  rw [List.length_map]
  have := List.length_filter_le (fun j => wait N rs a (l.getD j (0, 0))) (List.range k)
  rw [List.length_range] at this
  exact this
theorem rowTo_all (N : Nat) (rs : List (List Int)) (l : List (Int × Int)) (i : Nat) : rowTo N rs l (l.getD i (0, 0)) l.length = row N rs l i := rfl
end Go.Proofs.Ytphaaolnmbadcaa.Route
