/-
  Slots and the stack of the empty ones, as plain lists. Conditions: none.
-/
import Derived.Test.YtpbeldcaiceakaaSans
namespace Go.Proofs.Ytpbeldcaiceakaa
open Go.ChangeShapes Go.WideShapes Go.ChangeAt Go.RowKit
set_option linter.unusedVariables false

/-- a packet's numbers -/
structure Pk where
  s : Int
  d : Int
  l : Int
  b : Int
def zpk : Pk := ⟨0, 0, 0, 0⟩
/-- n slots have what S says; E: those that are empty, the next one last -/
structure Inv (n : Nat) (S : List (Option Pk)) (E : List Nat) : Prop where
  len : S.length = n
  nd : E.Nodup
  mem : ∀ k, k ∈ E ↔ S[k]? = some none
  cnt : E.length + S.countP Option.isSome = n
/-- what slot z has -/
def look (S : List (Option Pk)) (z : Int) : Option Pk := if 0 ≤ z then S.getD z.toNat none else none
theorem Inv.le {n : Nat} {S : List (Option Pk)} {E : List Nat} (h : Inv n S E) : E.length ≤ n := by have := h.cnt; omega
theorem Inv.lt {n : Nat} {S : List (Option Pk)} {E : List Nat} (h : Inv n S E) {k : Nat} (hk : k ∈ E) : k < n := by
  have := (h.mem k).1 hk
  rw [← h.len]
  exact (List.getElem?_eq_some_iff.1 this).1
theorem Inv.room {n : Nat} {S : List (Option Pk)} {E : List Nat} (h : Inv n S E) {k : Nat} {x : Pk} (hk : S[k]? = some (some x)) : E.length < n := by
  have h1 : 0 < S.countP Option.isSome := by
    rw [List.countP_pos_iff]
    exact ⟨some x, List.mem_of_getElem? hk, rfl⟩
  have := h.cnt
  omega
theorem look_some {S : List (Option Pk)} {k : Nat} {x : Pk} (h : S[k]? = some (some x)) : look S k = some x := by
  unfold look
  rw [if_pos (by omega), Int.toNat_natCast, List.getD_eq_getElem?_getD, h]; rfl
theorem look_is {S : List (Option Pk)} {z : Int} {x : Pk} (h : look S z = some x) : ∃ k : Nat, z = k ∧ k < S.length ∧ S[k]? = some (some x) := by
  unfold look at h
  by_cases h0 : 0 ≤ z
  · rw [if_pos h0, List.getD_eq_getElem?_getD] at h
    by_cases h1 : z.toNat < S.length
    · refine ⟨z.toNat, by omega, h1, ?_⟩
      rw [List.getElem?_eq_getElem h1] at h ⊢
      simpa using h
    · rw [List.getElem?_eq_none (by omega)] at h
      simp at h
  · rw [if_neg h0] at h; cases h
theorem look_none {S : List (Option Pk)} {z : Int} (h : look S z = none) : z < 0 ∨ (S.length : Int) ≤ z ∨ ∃ k : Nat, z = k ∧ k < S.length ∧ S[k]? = some none := by
  by_cases h0 : 0 ≤ z
  · by_cases h1 : z.toNat < S.length
    · refine .inr (.inr ⟨z.toNat, by omega, h1, ?_⟩)
      unfold look at h
      rw [if_pos h0, List.getD_eq_getElem?_getD] at h
      rw [List.getElem?_eq_getElem h1] at h ⊢
      simpa using h
    · exact .inr (.inl (by omega))
  · exact .inl (by omega)
theorem look_out {S : List (Option Pk)} {z : Int} (h : z < 0 ∨ (S.length : Int) ≤ z) : look S z = none := by
  unfold look
  by_cases h0 : 0 ≤ z
  · rw [if_pos h0, List.getD_eq_getElem?_getD, List.getElem?_eq_none (by omega)]; rfl
  · rw [if_neg h0]
theorem look_empty {S : List (Option Pk)} {k : Nat} (h : S[k]? = some none) : look S k = none := by
  unfold look
  rw [if_pos (by omega), Int.toNat_natCast, List.getD_eq_getElem?_getD, h]; rfl
theorem isSome_get {S : List (Option Pk)} {k : Nat} (hk : k < S.length) : S[k].isSome = (look S k).isSome := by
  unfold look
  rw [if_pos (by omega), Int.toNat_natCast, List.getD_eq_getElem?_getD, List.getElem?_eq_getElem hk]; rfl
theorem countP_set' {S : List (Option Pk)} {k : Nat} {v : Option Pk} (hk : k < S.length) : (S.set k v).countP Option.isSome + (if (S[k]).isSome then 1 else 0) = S.countP Option.isSome + (if v.isSome then 1 else 0) := by
  induction S generalizing k with
  | nil => simp at hk
  | cons x r ih =>
    cases k with
    | zero =>
      simp only [List.set_cons_zero, List.countP_cons, List.getElem_cons_zero]
      omega
    | succ k =>
      simp only [List.length_cons] at hk
      have := ih (k := k) (by omega)
      simp only [List.set_cons_succ, List.countP_cons, List.getElem_cons_succ]
      omega
/-- the last one is filled -/
theorem Inv.put {n : Nat} {S : List (Option Pk)} {E : List Nat} {k : Nat} (h : Inv n S (E ++ [k])) (x : Pk) : Inv n (S.set k (some x)) E := by
  have hk := (h.mem k).1 (by simp)
  obtain ⟨hlt, hk2⟩ := List.getElem?_eq_some_iff.1 hk
  have hnd := List.nodup_append.1 h.nd
  refine ⟨by rw [List.length_set]; exact h.len, hnd.1, fun j => ?_, ?_⟩
  · by_cases hj : j = k
    · subst hj
      rw [List.getElem?_set_self hlt]
      exact ⟨fun e => absurd rfl (hnd.2.2 j e j (by simp)), fun e => by cases e⟩
    · rw [List.getElem?_set_ne (fun e => hj e.symm), ← h.mem j]
      simp [hj]
  · have h1 := countP_set' (S := S) (k := k) (v := some x) hlt
    rw [hk2] at h1
    have h2 := h.cnt
    simp at h1 h2
    omega
/-- a full one is emptied -/
theorem Inv.drop {n : Nat} {S : List (Option Pk)} {E : List Nat} {k : Nat} {x : Pk} (h : Inv n S E) (hk : S[k]? = some (some x)) : Inv n (S.set k none) (E ++ [k]) := by
  obtain ⟨hlt, hk2⟩ := List.getElem?_eq_some_iff.1 hk
  have hnm : k ∉ E := fun e => by rw [h.mem k, hk] at e; cases e
  refine ⟨by rw [List.length_set]; exact h.len, ?_, fun j => ?_, ?_⟩
  · rw [List.nodup_append]
    refine ⟨h.nd, by simp, fun a ha b hb => ?_⟩
    simp at hb
    subst hb
    intro e; subst e; exact hnm ha
  · by_cases hj : j = k
    · subst hj
      rw [List.getElem?_set_self hlt]
      simp
    · rw [List.getElem?_set_ne (fun e => hj e.symm), ← h.mem j]
      simp [hj]
  · have h1 := countP_set' (S := S) (k := k) (v := none) hlt
    rw [hk2] at h1
    have h2 := h.cnt
    simp at h1 ⊢
    omega
/-- the slots of a new one, the least last -/
def down (n : Nat) : List Nat := (List.range n).reverse
theorem down_length (n : Nat) : (down n).length = n := by simp [down]
theorem down_succ (n : Nat) : down (n + 1) = n :: down n := by simp [down, List.range_succ]
theorem down_at {n k : Nat} (h : k < n) : (down n)[k]? = some (n - 1 - k) := by
  unfold down
  rw [List.getElem?_reverse (by simpa using h), List.length_range, List.getElem?_range (by omega)]
def none_ (n : Nat) : List (Option Pk) := List.replicate n none
theorem none_at {n k : Nat} : (none_ n)[k]? = some none ↔ k < n := by
  unfold none_
  rw [List.getElem?_replicate]
  by_cases h : k < n <;> simp [h]
theorem look_new {n : Nat} {z : Int} : look (none_ n) z = none := by
  unfold look none_
  split
  · rw [List.getD_eq_getElem?_getD, List.getElem?_replicate]
    split <;> rfl
  · rfl
theorem Inv.new (n : Nat) : Inv n (none_ n) (down n) := by
  refine ⟨by simp [none_], List.pairwise_reverse.2 (List.nodup_range.imp (fun h => Ne.symm h)), fun k => ?_, by simp [none_, down_length]⟩
  rw [none_at]
  simp [down]
/-- the stack of a new one of n, behind i packets -/
def up (n i : Nat) : List Nat := (down n).take (n - i)
theorem up_zero (n : Nat) : up n 0 = down n := by
  unfold up
  rw [List.take_of_length_le (by rw [down_length]; omega)]
theorem up_snoc {n i : Nat} (h : i < n) : up n i = up n (i + 1) ++ [i] := by
  unfold up
  rw [show n - i = (n - (i + 1)) + 1 by omega, List.take_add_one, down_at (by omega), show n - 1 - (n - (i + 1)) = i by omega]
  rfl
theorem up_full (n : Nat) : up n n = [] := by
  unfold up
  simp
theorem up_length {n i : Nat} : (up n i).length = n - i := by
  unfold up
  rw [List.length_take, down_length]; omega
/-- two with the same slots empty in the same order answer alike -/
theorem snoc_of {E : List Nat} (h : E ≠ []) : ∃ F k, E = F ++ [k] := ⟨E.dropLast, E.getLast h, (List.dropLast_concat_getLast h).symm⟩
end Go.Proofs.Ytpbeldcaiceakaa
