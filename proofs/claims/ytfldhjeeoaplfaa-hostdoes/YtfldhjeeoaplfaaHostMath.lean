/-
  What waits at a host, as a plain list in the order in which it came; each lane's own. Conditions: none.
-/
import Derived.Test.YtfldhjeeoaplfaaPkt
namespace Go.Proofs.Ytfldhjeeoaplfaa
open Go.ChangeShapes Go.WideShapes Go.ChangeAt Go.RowKit
set_option linter.unusedVariables false
namespace Hst

def isL (k : Int) (x : Pk) : Bool := decide (x.l = k)
/-- what waits in a lane -/
def lane (L : List Pk) (k : Int) : List Pk := L.filter (isL k)
theorem lane_nil (k : Int) : lane [] k = [] := rfl
theorem lane_snoc_at (L : List Pk) (x : Pk) : lane (L ++ [x]) x.l = lane L x.l ++ [x] := by simp [lane, isL]
theorem lane_snoc_not (L : List Pk) {x : Pk} {k : Int} (h : x.l ≠ k) : lane (L ++ [x]) k = lane L k := by simp [lane, isL, h]
theorem lane_len (L : List Pk) (k : Int) : (lane L k).length ≤ L.length := List.length_filter_le _ _
/-- the first of a list, else nothing -/
def hdk (l : List Pk) : Pk := l.headD zpk
/-- without the first one of a lane -/
def drop1 (L : List Pk) (k : Int) : List Pk := L.eraseP (isL k)
theorem lane_drop1 : ∀ (L : List Pk) (k : Int), lane (drop1 L k) k = (lane L k).tail
  | [], k => rfl
  | x :: r, k => by
    unfold drop1
    by_cases h : x.l = k
    · rw [List.eraseP_cons_of_pos (by simp [isL, h])]
      simp [lane, isL, h]
    · rw [List.eraseP_cons_of_neg (by simp [isL, h])]
      have ih := lane_drop1 r k
      unfold drop1 lane at ih
      unfold lane
      rw [List.filter_cons_of_neg (by simp [isL, h]), List.filter_cons_of_neg (by simp [isL, h])]
      exact ih
theorem lane_drop1_not : ∀ (L : List Pk) {k j : Int}, j ≠ k → lane (drop1 L k) j = lane L j
  | [], k, j, _ => rfl
  | x :: r, k, j, hj => by
    unfold drop1
    by_cases h : x.l = k
    · rw [List.eraseP_cons_of_pos (by simp [isL, h])]
      have : ¬ x.l = j := fun e => hj (by rw [← e, h])
      simp [lane, isL, this]
    · rw [List.eraseP_cons_of_neg (by simp [isL, h])]
      have ih := lane_drop1_not r hj
      unfold drop1 lane at ih
      unfold lane
      by_cases h2 : x.l = j
      · rw [List.filter_cons_of_pos (by simp [isL, h2]), List.filter_cons_of_pos (by simp [isL, h2]), ih]
      · rw [List.filter_cons_of_neg (by simp [isL, h2]), List.filter_cons_of_neg (by simp [isL, h2])]
        exact ih
/-- why a packet may not wait; 0: it may -/
def putE (n q : Nat) (L : List Pk) (x : Pk) : Int := if x.l < 0 ∨ (n : Int) ≤ x.l then 1 else if q ≤ (lane L x.l).length then 150 else 0
def putL (n q : Nat) (L : List Pk) (x : Pk) : List Pk := if putE n q L x = 0 then L ++ [x] else L
theorem putE_lane {n q : Nat} {L : List Pk} {x : Pk} (h : x.l < 0 ∨ (n : Int) ≤ x.l) : putE n q L x = 1 := if_pos h
theorem putE_full {n q : Nat} {L : List Pk} {x : Pk} (h : ¬ (x.l < 0 ∨ (n : Int) ≤ x.l)) (h2 : q ≤ (lane L x.l).length) : putE n q L x = 150 := by unfold putE; rw [if_neg h, if_pos h2]
theorem putE_ok {n q : Nat} {L : List Pk} {x : Pk} (h : ¬ (x.l < 0 ∨ (n : Int) ≤ x.l)) (h2 : ¬ q ≤ (lane L x.l).length) : putE n q L x = 0 := by unfold putE; rw [if_neg h, if_neg h2]
theorem putL_no {n q : Nat} {L : List Pk} {x : Pk} (h : putE n q L x ≠ 0) : putL n q L x = L := if_neg h
theorem putL_yes {n q : Nat} {L : List Pk} {x : Pk} (h : putE n q L x = 0) : putL n q L x = L ++ [x] := if_pos h
/-- all that waits waits in a lane, and no more than may -/
structure Fits (n q : Nat) (L : List Pk) : Prop where
  n3 : 1 ≤ n ∧ n ≤ 3
  q8 : 1 ≤ q ∧ q ≤ 8
  lanes : ∀ x ∈ L, 0 ≤ x.l ∧ x.l < (n : Int)
  room : ∀ k, (lane L k).length ≤ q
theorem Fits.nil {n q : Nat} (h1 : 1 ≤ n ∧ n ≤ 3) (h2 : 1 ≤ q ∧ q ≤ 8) : Fits n q [] := ⟨h1, h2, fun x hx => by simp at hx, fun k => Nat.zero_le _⟩
theorem Fits.put {n q : Nat} {L : List Pk} (h : Fits n q L) (x : Pk) : Fits n q (putL n q L x) := by
  by_cases e : putE n q L x = 0
  · rw [putL_yes e]
    unfold putE at e
    by_cases h1 : x.l < 0 ∨ (n : Int) ≤ x.l
    · rw [if_pos h1] at e; cases e
    · rw [if_neg h1] at e
      by_cases h2 : q ≤ (lane L x.l).length
      · rw [if_pos h2] at e; cases e
      · refine ⟨h.n3, h.q8, fun y hy => ?_, fun k => ?_⟩
        · rcases List.mem_append.1 hy with hy | hy
          · exact h.lanes y hy
          · rw [List.mem_singleton.1 hy]; omega
        · by_cases hk : x.l = k
          · subst hk
            rw [lane_snoc_at, List.length_append]
            simp
            omega
          · rw [lane_snoc_not L hk]
            exact h.room k
  · rw [putL_no e]
    exact h
theorem Fits.drop1 {n q : Nat} {L : List Pk} (h : Fits n q L) (k : Int) : Fits n q (drop1 L k) := by
  refine ⟨h.n3, h.q8, fun x hx => h.lanes x (List.mem_of_mem_eraseP hx), fun j => ?_⟩
  by_cases e : j = k
  · subst e
    rw [lane_drop1, List.length_tail]
    have := h.room j
    omega
  · rw [lane_drop1_not L e]
    exact h.room j
theorem Fits.out {n q : Nat} {L : List Pk} (h : Fits n q L) {k : Int} (hk : k < 0 ∨ (n : Int) ≤ k) : lane L k = [] := by
  unfold lane
  rw [List.filter_eq_nil_iff]
  intro x hx
  have := h.lanes x hx
  simp [isL]
  omega
theorem lanes_len : ∀ (L : List Pk), (∀ x ∈ L, 0 ≤ x.l ∧ x.l < 3) → L.length ≤ (lane L 0).length + (lane L 1).length + (lane L 2).length
  | [], _ => by simp
  | x :: r, h => by
    have ih := lanes_len r (fun y hy => h y (List.mem_cons_of_mem _ hy))
    have hx := h x List.mem_cons_self
    unfold lane at ih ⊢
    have e : x.l = 0 ∨ x.l = 1 ∨ x.l = 2 := by omega
    rcases e with e | e | e <;> simp [isL, e] at ih ⊢ <;> omega
theorem Fits.len {n q : Nat} {L : List Pk} (h : Fits n q L) : L.length ≤ 24 := by
  have h1 := lanes_len L (fun x hx => by have := h.lanes x hx; have := h.n3; omega)
  have h2 := h.room 0
  have h3 := h.room 1
  have h4 := h.room 2
  have := h.q8
  omega
/-- the place of a lane's first one -/
theorem first_at {L : List Pk} {k : Int} {j : Nat} {x : Pk} (hj : L[j]? = some x) (hx : x.l = k) (hno : ∀ (i : Nat) (y : Pk), i < j → L[i]? = some y → y.l ≠ k) : lane L k = x :: (lane L k).tail ∧ drop1 L k = L.take j ++ L.drop (j + 1) := by
  obtain ⟨hlt, he⟩ := List.getElem?_eq_some_iff.1 hj
  have hs : L = L.take j ++ x :: L.drop (j + 1) := by
    rw [← he, ← List.drop_eq_getElem_cons hlt, List.take_append_drop]
  have hn : ∀ y ∈ L.take j, isL k y = false := by
    intro y hy
    obtain ⟨i, hi, rfl⟩ := List.getElem_of_mem hy
    rw [List.length_take] at hi
    rw [List.getElem_take]
    exact decide_eq_false (hno i _ (by omega) (List.getElem?_eq_getElem (by omega)))
  have hf : (L.take j).filter (isL k) = [] := List.filter_eq_nil_iff.2 (fun y hy => by rw [hn y hy]; decide)
  have hp : isL k x = true := decide_eq_true hx
  refine ⟨?_, ?_⟩
  · have : lane L k = x :: (L.drop (j + 1)).filter (isL k) := by
      unfold lane
      conv => lhs; rw [hs]
      rw [List.filter_append, hf, List.filter_cons_of_pos hp, List.nil_append]
    rw [this]
    rfl
  · unfold drop1
    conv => lhs; rw [hs]
    rw [List.eraseP_append_right _ (fun y hy => by rw [hn y hy]; decide), List.eraseP_cons_of_pos hp]
theorem first_no {L : List Pk} {k : Int} (hno : ∀ (i : Nat) (y : Pk), i < L.length → L[i]? = some y → y.l ≠ k) : lane L k = [] ∧ drop1 L k = L := by
  have hn : ∀ y ∈ L, isL k y = false := by
    intro y hy
    obtain ⟨i, hi, rfl⟩ := List.getElem_of_mem hy
    exact decide_eq_false (hno i _ hi (List.getElem?_eq_getElem hi))
  refine ⟨List.filter_eq_nil_iff.2 (fun y hy => by rw [hn y hy]; decide), ?_⟩
  unfold drop1
  exact List.eraseP_of_forall_not (fun y hy => by rw [hn y hy]; decide)
end Hst
end Go.Proofs.Ytfldhjeeoaplfaa
