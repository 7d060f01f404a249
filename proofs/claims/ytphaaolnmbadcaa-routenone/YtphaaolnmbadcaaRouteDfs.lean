/-
  Marks of a search for circles, as plain lists: 0 not seen, 1 open, 2 shut. Conditions: none.
-/
import Derived.Test.YtphaaolnmbadcaaRouteMath
namespace Go.Proofs.Ytphaaolnmbadcaa.Route
set_option linter.unusedVariables false

theorem Plus.to {W : List (List Int)} {i k : Nat} (h : Plus W i k) : ∃ j, Edge W j k := by
  obtain ⟨n, j, h1, h2⟩ := h
  exact ⟨j, h2⟩
theorem set_get {S : List Int} {k j : Nat} {x : Int} (hk : k < S.length) : (S.set k x).getD j 0 = if j = k then x else S.getD j 0 := by
  rw [List.getD_eq_getElem?_getD, List.getD_eq_getElem?_getD]
  by_cases e : j = k
  · subst e; rw [if_pos rfl, List.getElem?_set_self hk]; rfl
  · rw [if_neg e, List.getElem?_set_ne (by omega)]
/-- how many are not seen -/
def zs (M : List Int) : Nat := M.countP (fun x => decide (x = 0))
theorem zs_set {x : Int} : ∀ (S : List Int) (k : Nat), k < S.length → zs (S.set k x) + (if S.getD k 0 = 0 then 1 else 0) = zs S + (if x = 0 then 1 else 0)
  | [], k, h => by simp at h
  | y :: s, 0, h => by
    unfold zs
    simp only [List.set_cons_zero, List.countP_cons, List.getD_cons_zero, decide_eq_true_eq]
    omega
  | y :: s, k + 1, h => by
    have ih := zs_set (x := x) s k (by simpa using h)
    unfold zs at ih ⊢
    simp only [List.set_cons_succ, List.countP_cons, List.getD_cons_succ, decide_eq_true_eq] at ih ⊢
    omega
/-- marks of places, of which those that are shut lead to shut ones alone, and never to themselves -/
structure Dfs (W : List (List Int)) (M : List Int) : Prop where
  len : M.length = W.length
  val : ∀ k, M.getD k 0 = 0 ∨ M.getD k 0 = 1 ∨ M.getD k 0 = 2
  shut : ∀ i, M.getD i 0 = 2 → ∀ k, Edge W i k → M.getD k 0 = 2
  calm : ∀ i, M.getD i 0 = 2 → ¬ Plus W i i
theorem Dfs.plus {W : List (List Int)} {M : List Int} (h : Dfs W M) {i k : Nat} (hi : M.getD i 0 = 2) (hk : Plus W i k) : M.getD k 0 = 2 := by
  obtain ⟨n, hn⟩ := hk
  have key : ∀ n k, steps W n i k → M.getD k 0 = 2 := by
    intro n
    induction n with
    | zero => rintro k rfl; exact hi
    | succ n ih => rintro k ⟨j, hj, e⟩; exact h.shut j (ih j hj) k e
  exact key _ k hn
theorem dfs_start (W : List (List Int)) : Dfs W (List.replicate W.length 0) := by
  have h0 : ∀ k, (List.replicate W.length (0 : Int)).getD k 0 = 0 := fun k => by
    rw [List.getD_eq_getElem?_getD, List.getElem?_replicate]
    split <;> rfl
  exact ⟨List.length_replicate, fun k => .inl (h0 k), fun i hi => (by rw [h0] at hi; cases hi), fun i hi => (by rw [h0] at hi; cases hi)⟩
theorem Dfs.open1 {W : List (List Int)} {M : List Int} (h : Dfs W M) {p : Nat} (hp : p < W.length) (h0 : M.getD p 0 = 0) : Dfs W (M.set p 1) := by
  have hl : p < M.length := by rw [h.len]; exact hp
  refine ⟨by rw [List.length_set]; exact h.len, fun k => ?_, fun i hi k e => ?_, fun i hi => ?_⟩
  · rw [set_get hl]
    split
    · exact .inr (.inl rfl)
    · exact h.val k
  · rw [set_get hl] at hi ⊢
    by_cases e1 : i = p
    · rw [if_pos e1] at hi; cases hi
    · rw [if_neg e1] at hi
      have hk := h.shut i hi k e
      rw [if_neg (by rintro rfl; rw [h0] at hk; cases hk)]
      exact hk
  · rw [set_get hl] at hi
    by_cases e1 : i = p
    · rw [if_pos e1] at hi; cases hi
    · rw [if_neg e1] at hi
      exact h.calm i hi
theorem Dfs.shut2 {W : List (List Int)} {M : List Int} (h : Dfs W M) {p : Nat} (hp : p < W.length) (h1 : M.getD p 0 = 1) (hs : ∀ k, Edge W p k → M.getD k 0 = 2) : Dfs W (M.set p 2) := by
  have hl : p < M.length := by rw [h.len]; exact hp
  refine ⟨by rw [List.length_set]; exact h.len, fun k => ?_, fun i hi k e => ?_, fun i hi => ?_⟩
  · rw [set_get hl]
    split
    · exact .inr (.inr rfl)
    · exact h.val k
  · rw [set_get hl]
    split
    · rfl
    · rw [set_get hl] at hi
      by_cases e1 : i = p
      · subst e1; exact hs k e
      · rw [if_neg e1] at hi
        exact h.shut i hi k e
  · rw [set_get hl] at hi
    by_cases e1 : i = p
    · subst e1
      intro hc
      obtain ⟨n, hn⟩ := hc
      obtain ⟨j, e, hj⟩ := steps_first n i i hn
      have h2 := hs j e
      cases n with
      | zero =>
        obtain rfl : j = i := hj
        rw [h1] at h2; cases h2
      | succ n =>
        have := h.plus h2 ⟨n, hj⟩
        rw [h1] at this; cases this
    · rw [if_neg e1] at hi
      exact h.calm i hi
/-- what one search, that found no circle, makes of the marks -/
structure Step (W : List (List Int)) (M M' : List Int) : Prop where
  dfs : Dfs W M'
  opn : ∀ i, M'.getD i 0 = 1 ↔ M.getD i 0 = 1
  shut : ∀ i, M.getD i 0 = 2 → M'.getD i 0 = 2
  zeros : zs M' ≤ zs M
theorem Step.refl {W : List (List Int)} {M : List Int} (h : Dfs W M) : Step W M M := ⟨h, fun _ => Iff.rfl, fun _ h => h, Nat.le_refl _⟩
theorem Step.trans {W : List (List Int)} {A B C : List Int} (h : Step W A B) (k : Step W B C) : Step W A C :=
  ⟨k.dfs, fun i => (k.opn i).trans (h.opn i), fun i hi => k.shut i (h.shut i hi), Nat.le_trans k.zeros h.zeros⟩
/-- a place that was opened, and all behind it shut, is shut -/
theorem Step.close {W : List (List Int)} {M M2 : List Int} (h : Dfs W M) {p : Nat} (hp : p < W.length) (h0 : M.getD p 0 = 0) (s : Step W (M.set p 1) M2) (hs : ∀ k, Edge W p k → M2.getD k 0 = 2) : Step W M (M2.set p 2) ∧ (M2.set p 2).getD p 0 = 2 := by
  have hl : p < M.length := by rw [h.len]; exact hp
  have hl2 : p < M2.length := by rw [s.dfs.len]; exact hp
  have h1 : M2.getD p 0 = 1 := (s.opn p).2 (by rw [set_get hl, if_pos rfl])
  refine ⟨⟨s.dfs.shut2 hp h1 hs, fun i => ?_, fun i hi => ?_, ?_⟩, by rw [set_get hl2, if_pos rfl]⟩
  · rw [set_get hl2]
    by_cases e : i = p
    · subst e
      rw [if_pos rfl, h0]
      exact ⟨fun e => (by cases e), fun e => (by cases e)⟩
    · rw [if_neg e, s.opn i, set_get hl, if_neg e]
  · rw [set_get hl2]
    split
    · rfl
    · rename_i e
      exact s.shut i (by rw [set_get hl, if_neg e]; exact hi)
  · have a := zs_set (x := 2) M2 p hl2
    have b := zs_set (x := 1) M p hl
    have c := s.zeros
    rw [h1] at a
    rw [h0] at b
    simp at a b
    omega
theorem zs_open {W : List (List Int)} {M : List Int} (h : Dfs W M) {p : Nat} (hp : p < W.length) (h0 : M.getD p 0 = 0) : zs (M.set p 1) + 1 = zs M := by
  have b := zs_set (x := 1) M p (by rw [h.len]; exact hp)
  rw [h0] at b
  simp at b
  omega
end Go.Proofs.Ytphaaolnmbadcaa.Route
