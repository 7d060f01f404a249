/-
  Ways that are laid one by one: rows of rows, of which those so far have turned. Conditions: none.
-/
import Derived.Test.YtphaaolnmbadcaaRouteAll
namespace Go.Proofs.Ytphaaolnmbadcaa.Route
set_option linter.unusedVariables false

theorem set_map_range {α : Type} (g : Nat → α) {N v : Nat} (x : α) (hv : v < N) : ((List.range N).map g).set v x = (List.range N).map (fun a => if a = v then x else g a) := by
  apply List.ext_getElem?
  intro i
  by_cases hi : i < N
  · by_cases e : i = v
    · subst e
      rw [List.getElem?_set_self (by simpa using hv), List.getElem?_map, List.getElem?_range hi]
      simp
    · rw [List.getElem?_set_ne (by omega), List.getElem?_map, List.getElem?_map, List.getElem?_range hi]
      simp [e]
  · rw [List.getElem?_eq_none (by simp; omega), List.getElem?_eq_none (by simp; omega)]
/-- those ahead of v and w have turned to f, but for those from a node to itself -/
def upd (f : Nat → Nat → Int) (rs : List (List Int)) (N v w : Nat) : List (List Int) := (List.range N).map fun a => (List.range N).map fun b => if (a < v ∨ a = v ∧ b < w) ∧ a ≠ b then f a b else (rs.getD a []).getD b 0
theorem upd_len (f : Nat → Nat → Int) (rs : List (List Int)) (N v w : Nat) : (upd f rs N v w).length = N := by simp [upd]
theorem upd_at (f : Nat → Nat → Int) (rs : List (List Int)) (N v w : Nat) {a : Nat} (ha : a < N) : (upd f rs N v w).getD a [] = (List.range N).map fun b => if (a < v ∨ a = v ∧ b < w) ∧ a ≠ b then f a b else (rs.getD a []).getD b 0 := by
  unfold upd
  rw [List.getD_eq_getElem?_getD, List.getElem?_map, List.getElem?_range ha]
  rfl
theorem upd_row_len (f : Nat → Nat → Int) (rs : List (List Int)) (N v w : Nat) {a : Nat} (ha : a < N) : ((upd f rs N v w).getD a []).length = N := by
  rw [upd_at _ _ _ _ _ ha]
  simp
theorem upd_zero (f : Nat → Nat → Int) {rs : List (List Int)} {N : Nat} (h1 : rs.length = N) (h2 : ∀ i, i < N → (rs.getD i []).length = N) : upd f rs N 0 0 = rs := by
  apply List.ext_getElem?
  intro i
  by_cases hi : i < N
  · have e := upd_at f rs N 0 0 hi
    rw [List.getD_eq_getElem?_getD, List.getElem?_eq_getElem (by rw [upd_len]; exact hi)] at e
    simp only [Option.getD_some] at e
    rw [List.getElem?_eq_getElem (by rw [upd_len]; exact hi), e, List.getElem?_eq_getElem (show i < rs.length by omega)]
    congr 1
    have h3 := h2 i hi
    rw [List.getD_eq_getElem?_getD, List.getElem?_eq_getElem (show i < rs.length by omega)] at h3 ⊢
    simp only [Option.getD_some] at h3 ⊢
    apply List.ext_getElem?
    intro j
    by_cases hj : j < N
    · rw [List.getElem?_map, List.getElem?_range hj]
      simp only [Option.map_some]
      rw [if_neg (by omega), List.getElem?_eq_getElem (show j < rs[i].length by omega), List.getD_eq_getElem?_getD, List.getElem?_eq_getElem (show j < rs[i].length by omega)]
      rfl
    · rw [List.getElem?_eq_none (by simp; omega), List.getElem?_eq_none (by omega)]
  · rw [List.getElem?_eq_none (by rw [upd_len]; omega), List.getElem?_eq_none (by omega)]
theorem upd_hit (f : Nat → Nat → Int) (rs : List (List Int)) {N v w : Nat} (hv : v < N) (hw : w < N) (hne : v ≠ w) : (upd f rs N v w).set v (((upd f rs N v w).getD v []).set w (f v w)) = upd f rs N v (w + 1) := by
  rw [upd_at _ _ _ _ _ hv, set_map_range _ _ hw]
  unfold upd
  rw [set_map_range _ _ hv]
  apply List.map_congr_left
  intro a ha
  by_cases e : a = v
  · subst e
    rw [if_pos rfl]
    apply List.map_congr_left
    intro b hb
    by_cases e2 : b = w
    · subst e2
      rw [if_pos rfl, if_pos ⟨.inr ⟨rfl, by omega⟩, hne⟩]
    · rw [if_neg e2]
      by_cases c : (a < a ∨ a = a ∧ b < w) ∧ a ≠ b
      · rw [if_pos c, if_pos ⟨.inr ⟨rfl, by omega⟩, c.2⟩]
      · rw [if_neg c, if_neg (fun h => c ⟨.inr ⟨rfl, by omega⟩, h.2⟩)]
  · rw [if_neg e]
    apply List.map_congr_left
    intro b hb
    by_cases c : (a < v ∨ a = v ∧ b < w) ∧ a ≠ b
    · rw [if_pos c, if_pos ⟨.inl (by omega), c.2⟩]
    · rw [if_neg c, if_neg (fun h => c ⟨.inl (by omega), h.2⟩)]
theorem upd_miss (f : Nat → Nat → Int) (rs : List (List Int)) (N v : Nat) : upd f rs N v (v + 1) = upd f rs N v v := by
  unfold upd
  apply List.map_congr_left
  intro a ha
  apply List.map_congr_left
  intro b hb
  by_cases c : (a < v ∨ a = v ∧ b < v) ∧ a ≠ b
  · rw [if_pos c, if_pos ⟨by omega, c.2⟩]
  · rw [if_neg c, if_neg (fun h => c ⟨by omega, h.2⟩)]
theorem upd_row (f : Nat → Nat → Int) (rs : List (List Int)) (N v : Nat) : upd f rs N v N = upd f rs N (v + 1) 0 := by
  unfold upd
  apply List.map_congr_left
  intro a ha
  apply List.map_congr_left
  intro b hb
  have := List.mem_range.1 hb
  by_cases c : (a < v ∨ a = v ∧ b < N) ∧ a ≠ b
  · rw [if_pos c, if_pos ⟨by omega, c.2⟩]
  · rw [if_neg c, if_neg (fun h => c ⟨by omega, h.2⟩)]
theorem upd_all (f : Nat → Nat → Int) (rs : List (List Int)) (N : Nat) : upd f rs N N 0 = (List.range N).map fun a => (List.range N).map fun b => if a ≠ b then f a b else (rs.getD a []).getD b 0 := by
  unfold upd
  apply List.map_congr_left
  intro a ha
  apply List.map_congr_left
  intro b hb
  have := List.mem_range.1 ha
  by_cases c : a ≠ b
  · rw [if_pos c, if_pos ⟨.inl this, c⟩]
  · rw [if_neg c, if_neg (fun h => c h.2)]
theorem mkRows_row {N : Nat} (l : List Nat) {i : Nat} (h : i < N) : ((mkRows N l).getD i []).length = N := by
  unfold mkRows
  rw [List.getD_eq_getElem?_getD, List.getElem?_map, List.getElem?_range h]
  exact mkRow_len N l i
theorem mkRows_at {N : Nat} (l : List Nat) {i : Nat} (h : i < N) : (mkRows N l).getD i [] = mkRow N l i := by
  unfold mkRows
  rw [List.getD_eq_getElem?_getD, List.getElem?_map, List.getElem?_range h]
  rfl
theorem mkRows_straight {N a b : Nat} (ha : a < N) (hb : b < N) : ((mkRows N []).getD a []).getD b 0 = (b : Int) := by
  rw [mkRows_at _ ha]
  unfold mkRow
  rw [List.getD_eq_getElem?_getD, List.getElem?_map, List.getElem?_range hb]
  simp [nxt]
/-- the ring's ways: each node sends on to the next one -/
theorem upd_ring (N : Nat) : upd (fun a _ => (((a + 1) % N : Nat) : Int)) (mkRows N []) N N 0 = ringN N := by
  rw [upd_all]
  unfold ringN
  apply List.map_congr_left
  intro a ha
  apply List.map_congr_left
  intro b hb
  by_cases c : a = b
  · subst c
    rw [if_neg (by simp), if_pos rfl, mkRows_straight (List.mem_range.1 ha) (List.mem_range.1 hb)]
  · rw [if_pos c, if_neg c]
/-- behind a chain's ways the ring's -/
theorem upd_ring_chain (N : Nat) (f : Nat → Nat → Int) : upd (fun a _ => (((a + 1) % N : Nat) : Int)) (upd f (mkRows N []) N N 0) N N 0 = ringN N := by
  rw [upd_all]
  unfold ringN
  apply List.map_congr_left
  intro a ha
  apply List.map_congr_left
  intro b hb
  have ha' := List.mem_range.1 ha
  have hb' := List.mem_range.1 hb
  by_cases c : a = b
  · subst c
    rw [if_neg (by simp), if_pos rfl, upd_at _ _ _ _ _ ha', List.getD_eq_getElem?_getD, List.getElem?_map, List.getElem?_range hb']
    simp only [Option.map_some, Option.getD_some]
    rw [if_neg (by simp), mkRows_straight ha' hb']
  · rw [if_pos c, if_neg c]
theorem upd_chain (N : Nat) : upd (fun a b => if a < b then ((a + 1 : Nat) : Int) else ((a - 1 : Nat) : Int)) (mkRows N []) N N 0 = chainN N := by
  rw [upd_all]
  unfold chainN
  apply List.map_congr_left
  intro a ha
  apply List.map_congr_left
  intro b hb
  by_cases c : a = b
  · subst c
    rw [if_neg (by simp), if_neg (by omega), if_neg (by omega), mkRows_straight (List.mem_range.1 ha) (List.mem_range.1 hb)]
  · rw [if_pos c]
    by_cases d : a < b
    · rw [if_pos d, if_pos d]
    · rw [if_neg d, if_neg d, if_pos (by omega)]
theorem ring3_is : ringN 3 = ring3 := by decide
end Go.Proofs.Ytphaaolnmbadcaa.Route
