/-
  The way from node to node, found from where both ways up meet first. Conditions: none.
-/
import Derived.Test.YtipdcpekepiphaaTreeMath
namespace Go.Proofs.Ytipdcpekepiphaa.Tree
set_option linter.unusedVariables false

/-- of a up to the first that is in b too, and from there back to where b begins -/
def meet (a b : List Int) : List Int := match a.find? (fun y => b.contains y) with
  | some x => a.takeWhile (fun y => !b.contains y) ++ [x] ++ (b.takeWhile (fun y => !(y == x))).reverse
  | none => []
def q_meet (ps : List Int) (v w : Nat) : Bool := (ups ps 6 v).any (fun y => (ups ps 6 w).contains y) && meet (ups ps 6 v) (ups ps 6 w) == path ps v w && decide ((path ps v w).length ≤ 6) && (path ps v w).all (fun x => decide (0 ≤ x) && decide (x ≤ 5)) && (path ps v w).getD (min 1 ((path ps v w).length - 1)) 0 == way ps v w && decide (1 ≤ (path ps v w).length)
set_option maxRecDepth 1000000 in
set_option maxHeartbeats 4000000 in
theorem all_meet : ask2 q_meet = true := by decide +kernel
theorem takeWhile_to {α : Type} {p : α → Bool} {q : List α} {x : α} {t : List α} (hq : ∀ y ∈ q, p y = true) (hx : p x = false) : (q ++ [x] ++ t).takeWhile p = q := by
  induction q with
  | nil => simp [hx]
  | cons y r ih =>
    have h1 := hq y (by simp)
    have h2 := ih (fun z hz => hq z (by simp [hz]))
    simp only [List.cons_append, List.takeWhile_cons, h1, if_true]
    rw [h2]
theorem find_to {α : Type} {p : α → Bool} {q : List α} {x : α} {t : List α} (hq : ∀ y ∈ q, p y = false) (hx : p x = true) : (q ++ [x] ++ t).find? p = some x := by
  induction q with
  | nil => simp [hx]
  | cons y r ih =>
    have h1 := hq y (by simp)
    have h2 := ih (fun z hz => hq z (by simp [hz]))
    simp only [List.cons_append, List.find?_cons, h1]
    exact h2
/-- what the two loops come to -/
theorem meet_is {a b q q' : List Int} {x : Int} (ha : q ++ [x] <+: a) (hq : ∀ y ∈ q, y ∉ b) (hb : q' ++ [x] <+: b) (hq' : ∀ y ∈ q', y ≠ x) : (q ++ [x]) ++ q'.reverse = meet a b := by
  obtain ⟨t, rfl⟩ := ha
  obtain ⟨t', rfl⟩ := hb
  unfold meet
  have hx : (q' ++ [x] ++ t').contains x = true := by simp
  have hn : ∀ y ∈ q, (q' ++ [x] ++ t').contains y = false := fun y hy => by
    cases h : (q' ++ [x] ++ t').contains y with
    | false => rfl
    | true => exact absurd (by simpa using h) (hq y hy)
  rw [find_to hn hx]
  rw [takeWhile_to (p := fun y => !(q' ++ [x] ++ t').contains y) (fun y hy => by rw [hn y hy]; rfl) (by rw [hx]; rfl)]
  dsimp only
  rw [takeWhile_to (p := fun y => !(y == x)) (fun y hy => by have := hq' y hy; simp [this]) (by simp)]
theorem meet_path {ps : List Int} (ho : ok ps = true) {v w : Nat} (hv : v ≤ ps.length) (hw : w ≤ ps.length) : (∃ y ∈ ups ps 6 v, y ∈ ups ps 6 w) ∧ meet (ups ps 6 v) (ups ps 6 w) = path ps v w := by
  have h := of_ask2 all_meet ho hv hw
  unfold q_meet at h
  simp only [Bool.and_eq_true] at h
  obtain ⟨⟨⟨⟨⟨h1, h2⟩, _⟩, _⟩, _⟩, _⟩ := h
  refine ⟨?_, eq_of_beq h2⟩
  rw [List.any_eq_true] at h1
  obtain ⟨y, hy, hc⟩ := h1
  exact ⟨y, hy, by simpa using hc⟩
theorem path_small {ps : List Int} (ho : ok ps = true) {v w : Nat} (hv : v ≤ ps.length) (hw : w ≤ ps.length) : 1 ≤ (path ps v w).length ∧ (path ps v w).length ≤ 6 ∧ (∀ x ∈ path ps v w, 0 ≤ x ∧ x ≤ 5) ∧ (path ps v w).getD (min 1 ((path ps v w).length - 1)) 0 = way ps v w := by
  have h := of_ask2 all_meet ho hv hw
  unfold q_meet at h
  simp only [Bool.and_eq_true, decide_eq_true_eq, List.all_eq_true] at h
  obtain ⟨⟨⟨⟨⟨_, _⟩, h3⟩, h4⟩, h5⟩, h6⟩ := h
  exact ⟨h6, h3, h4, eq_of_beq h5⟩
end Go.Proofs.Ytipdcpekepiphaa.Tree
