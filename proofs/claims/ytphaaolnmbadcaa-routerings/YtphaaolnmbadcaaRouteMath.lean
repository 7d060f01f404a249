/-
  Ways of a plan as plain lists: the way from node to node, which hop waits for which, and whether that goes round. Conditions: none.
-/
import Derived.Test.YtphaaolnmbadcaaPlanMath
namespace Go.Proofs.Ytphaaolnmbadcaa.Route
set_option linter.unusedVariables false

/-- to where v sends on what is for w -/
def nx (rs : List (List Int)) (v w : Int) : Int := (rs.getD v.toNat []).getD w.toNat 0
def isIn (N z : Int) : Bool := decide (0 ≤ z) && decide (z < N)
/-- the way from v to w with at most f nodes behind v; none, if there is no such way -/
def go (es : List (Int × Int)) (rs : List (List Int)) (w : Int) : Nat → Int → List Int
  | 0, v => if v = w then [v] else []
  | f + 1, v => if v = w then [v] else if Plan.port es v (nx rs v w) < 0 then [] else if go es rs w f (nx rs v w) = [] then [] else v :: go es rs w f (nx rs v w)
def pathOf (b : Bool) (N : Int) (es : List (Int × Int)) (rs : List (List Int)) (v w : Int) : List Int := if b && isIn N v && isIn N w then go es rs w (N.toNat - 1) v else []
theorem go_self (es : List (Int × Int)) (rs : List (List Int)) (w : Int) : ∀ f, go es rs w f w = [w]
  | 0 => if_pos rfl
  | f + 1 => if_pos rfl
theorem go_zero {es : List (Int × Int)} {rs : List (List Int)} {w v : Int} (h : v ≠ w) : go es rs w 0 v = [] := if_neg h
theorem go_no {es : List (Int × Int)} {rs : List (List Int)} {w v : Int} {f : Nat} (h : v ≠ w) (hp : Plan.port es v (nx rs v w) < 0) : go es rs w f v = [] := by
  cases f with
  | zero => exact if_neg h
  | succ f => unfold go; rw [if_neg h, if_pos hp]
theorem go_on {es : List (Int × Int)} {rs : List (List Int)} {w v : Int} {f : Nat} (h : v ≠ w) (hp : ¬ Plan.port es v (nx rs v w) < 0) : go es rs w (f + 1) v = if go es rs w f (nx rs v w) = [] then [] else v :: go es rs w f (nx rs v w) := by
  rw [go, if_neg h, if_neg hp]
/-- what is behind out, so far, with the way from v on -/
def behind (pre l : List Int) : List Int := if l = [] then [] else pre ++ l
theorem behind_nil (pre : List Int) : behind pre [] = [] := if_pos rfl
theorem behind_self (pre : List Int) (es : List (Int × Int)) (rs : List (List Int)) (w : Int) (f : Nat) : behind pre (go es rs w f w) = pre ++ [w] := by
  unfold behind
  rw [go_self, if_neg (by simp)]
theorem behind_on {es : List (Int × Int)} {rs : List (List Int)} {w v : Int} {f : Nat} (pre : List Int) (h : v ≠ w) (hp : ¬ Plan.port es v (nx rs v w) < 0) : behind pre (go es rs w (f + 1) v) = behind (pre ++ [v]) (go es rs w f (nx rs v w)) := by
  rw [go_on h hp]
  unfold behind
  by_cases e : go es rs w f (nx rs v w) = []
  · rw [if_pos e, if_pos rfl, if_pos e]
  · rw [if_neg e, if_neg (by simp), if_neg e]
    simp
theorem go_len (es : List (Int × Int)) (rs : List (List Int)) (w : Int) : ∀ (f : Nat) (v : Int), (go es rs w f v).length ≤ f + 1
  | 0, v => by unfold go; split <;> simp
  | f + 1, v => by
    have ih := go_len es rs w f (nx rs v w)
    unfold go
    split
    · simp
    · split
      · simp
      · split
        · simp
        · rw [List.length_cons]; omega
theorem go_more {es : List (Int × Int)} {rs : List (List Int)} {w : Int} : ∀ (f : Nat) (v : Int), go es rs w f v ≠ [] → go es rs w (f + 1) v = go es rs w f v
  | 0, v, h => by
    by_cases e : v = w
    · subst e; rw [go_self, go_self]
    · exact absurd (go_zero e) h
  | f + 1, v, h => by
    by_cases e : v = w
    · subst e; rw [go_self, go_self]
    · by_cases hp : Plan.port es v (nx rs v w) < 0
      · exact absurd (go_no e hp) h
      · rw [go_on e hp] at h
        by_cases h1 : go es rs w f (nx rs v w) = []
        · rw [if_pos h1] at h; exact absurd rfl h
        · rw [go_on e hp, go_on e hp, go_more f _ h1]
theorem go_le {es : List (Int × Int)} {rs : List (List Int)} {w : Int} {f g : Nat} {v : Int} (h : go es rs w f v ≠ []) (hg : f ≤ g) : go es rs w g v = go es rs w f v := by
  induction g with
  | zero => have : f = 0 := by omega
            subst this; rfl
  | succ g ih =>
    by_cases e : f = g + 1
    · rw [e]
    · have h1 := ih (by omega)
      rw [go_more g v (by rw [h1]; exact h), h1]
/-- from each of its nodes a way goes on as it would from there -/
theorem go_drop {es : List (Int × Int)} {rs : List (List Int)} {w : Int} : ∀ (f : Nat) (v : Int) (i : Nat), i < (go es rs w f v).length → ∃ g, g + i ≤ f ∧ go es rs w g ((go es rs w f v).getD i 0) = (go es rs w f v).drop i
  | f, v, 0, h => by
    refine ⟨f, Nat.le_refl _, ?_⟩
    rw [List.drop_zero]
    congr 1
    cases f with
    | zero =>
      by_cases e : v = w
      · subst e; rw [go_self]; rfl
      · rw [go_zero e] at h; simp at h
    | succ f =>
      by_cases e : v = w
      · subst e; rw [go_self]; rfl
      · by_cases hp : Plan.port es v (nx rs v w) < 0
        · rw [go_no e hp] at h; simp at h
        · rw [go_on e hp] at h ⊢
          by_cases h1 : go es rs w f (nx rs v w) = []
          · rw [if_pos h1] at h; simp at h
          · rw [if_neg h1]; rfl
  | 0, v, i + 1, h => by
    have := go_len es rs w 0 v
    omega
  | f + 1, v, i + 1, h => by
    by_cases e : v = w
    · subst e; rw [go_self] at h; simp at h
    · by_cases hp : Plan.port es v (nx rs v w) < 0
      · rw [go_no e hp] at h; simp at h
      · rw [go_on e hp] at h ⊢
        by_cases h1 : go es rs w f (nx rs v w) = []
        · rw [if_pos h1] at h; simp at h
        · rw [if_neg h1] at h ⊢
          obtain ⟨g, hg, hd⟩ := go_drop f (nx rs v w) i (by simpa using h)
          exact ⟨g, by omega, by simpa using hd⟩
theorem go_steps {es : List (Int × Int)} {rs : List (List Int)} {w : Int} {f : Nat} {v : Int} {i : Nat} (h : i < (go es rs w f v).length) : go es rs w f ((go es rs w f v).getD i 0) = (go es rs w f v).drop i := by
  obtain ⟨g, hg, hd⟩ := go_drop f v i h
  rw [← hd]
  refine go_le ?_ (by omega)
  rw [hd]
  intro e
  have := congrArg List.length e
  rw [List.length_drop] at this
  simp at this
  omega
theorem go_once {es : List (Int × Int)} {rs : List (List Int)} {w : Int} {f : Nat} {v : Int} {i j : Nat} (hij : i < j) (h : j < (go es rs w f v).length) : (go es rs w f v).getD i 0 ≠ (go es rs w f v).getD j 0 := by
  intro e
  have h1 := go_steps (show i < (go es rs w f v).length by omega)
  have h2 := go_steps h
  rw [e, h2] at h1
  have := congrArg List.length h1
  rw [List.length_drop, List.length_drop] at this
  omega
theorem port_pos' {es : List (Int × Int)} {v u : Int} (h : ¬ Plan.port es v u < 0) : u ∈ Plan.bes es v := by
  unfold Plan.port at h
  have key : ∀ (l : List Int) (k : Nat), ¬ Plan.place u l k < 0 → u ∈ l := by
    intro l
    induction l with
    | nil => intro k h; exact absurd (by simp [Plan.place]) h
    | cons y r ih =>
      intro k h
      unfold Plan.place at h
      by_cases e : y = u
      · subst e; simp
      · rw [if_neg e] at h
        exact List.mem_cons_of_mem _ (ih _ h)
  exact key _ _ h

/-- does hop a wait for hop b? -/
def wait (N : Nat) (rs : List (List Int)) (a b : Int × Int) : Bool := decide (a.2 = b.1) && (List.range N).any fun (w : Nat) => decide ((w : Int) ≠ a.2) && decide ((w : Int) ≠ a.1) && decide (nx rs a.1 w = a.2) && decide (nx rs a.2 w = b.2)
def row (N : Nat) (rs : List (List Int)) (l : List (Int × Int)) (i : Nat) : List Int := ((List.range l.length).filter fun k => wait N rs (l.getD i (0, 0)) (l.getD k (0, 0))).map fun (k : Nat) => (k : Int)
def rowsOf (N : Nat) (rs : List (List Int)) (l : List (Int × Int)) : List (List Int) := (List.range l.length).map (row N rs l)
def waitsOf (b : Bool) (N : Int) (es : List (Int × Int)) (rs : List (List Int)) : List (List Int) := if b then rowsOf N.toNat rs (Plan.hops N es) else []
theorem rowsOf_len (N : Nat) (rs : List (List Int)) (l : List (Int × Int)) : (rowsOf N rs l).length = l.length := by simp [rowsOf]
theorem rowsOf_at {N : Nat} {rs : List (List Int)} {l : List (Int × Int)} {i : Nat} (h : i < l.length) : (rowsOf N rs l).getD i [] = row N rs l i := by
  unfold rowsOf
  rw [List.getD_eq_getElem?_getD, List.getElem?_map, List.getElem?_range h]
  rfl
theorem row_in {N : Nat} {rs : List (List Int)} {l : List (Int × Int)} {i : Nat} {x : Int} (h : x ∈ row N rs l i) : ∃ k : Nat, x = (k : Int) ∧ k < l.length := by
  unfold row at h
  obtain ⟨k, hk, rfl⟩ := List.mem_map.1 h
  exact ⟨k, rfl, List.mem_range.1 (List.mem_filter.1 hk).1⟩
theorem row_len (N : Nat) (rs : List (List Int)) (l : List (Int × Int)) (i : Nat) : (row N rs l i).length ≤ l.length := by
  unfold row
  rw [List.length_map]
  have := List.length_filter_le (fun k => wait N rs (l.getD i (0, 0)) (l.getD k (0, 0))) (List.range l.length)
  rw [List.length_range] at this
  exact this
/-- all entries are places -/
def Fit (W : List (List Int)) : Prop := ∀ i, i < W.length → ∀ x ∈ W.getD i [], 0 ≤ x ∧ x < (W.length : Int)
theorem rowsOf_fit (N : Nat) (rs : List (List Int)) (l : List (Int × Int)) : Fit (rowsOf N rs l) := by
  intro i hi x hx
  rw [rowsOf_len] at hi
  rw [rowsOf_at hi] at hx
  obtain ⟨k, rfl, hk⟩ := row_in hx
  rw [rowsOf_len]
  omega

/-- one step, and one or more -/
def Edge (W : List (List Int)) (i k : Nat) : Prop := i < W.length ∧ (k : Int) ∈ W.getD i []
def steps (W : List (List Int)) : Nat → Nat → Nat → Prop
  | 0, i, k => i = k
  | n + 1, i, k => ∃ j, steps W n i j ∧ Edge W j k
def Plus (W : List (List Int)) (i k : Nat) : Prop := ∃ n, steps W (n + 1) i k
theorem Plus.one {W : List (List Int)} {i k : Nat} (h : Edge W i k) : Plus W i k := ⟨0, i, rfl, h⟩
theorem Plus.step {W : List (List Int)} {i j k : Nat} (h : Plus W i j) (e : Edge W j k) : Plus W i k := by
  obtain ⟨n, h⟩ := h
  exact ⟨n + 1, j, h, e⟩
theorem steps_first {W : List (List Int)} : ∀ (n : Nat) (i k : Nat), steps W (n + 1) i k → ∃ j, Edge W i j ∧ steps W n j k
  | 0, i, k, ⟨j, h1, h2⟩ => by
    obtain rfl : i = j := h1
    exact ⟨k, h2, rfl⟩
  | n + 1, i, k, ⟨j, h1, h2⟩ => by
    obtain ⟨j', e, h⟩ := steps_first n i j h1
    exact ⟨j', e, j, h, h2⟩
theorem Plus.turn {W : List (List Int)} {i : Nat} (h : Plus W i i) : ∃ j, Edge W i j ∧ Plus W j j := by
  obtain ⟨n, h⟩ := h
  obtain ⟨j, e, hs⟩ := steps_first n i i h
  exact ⟨j, e, n, i, hs, e⟩
/-- what is left of places when those that lead to none that is left are taken away, over and over -/
def peel (W : List (List Int)) : Nat → List Nat → List Nat
  | 0, R => R
  | n + 1, R => peel W n (R.filter fun i => (W.getD i []).any fun k => R.contains k.toNat)
theorem peel_keeps {W : List (List Int)} : ∀ (n : Nat) (R : List Nat), (∀ i, Plus W i i → i ∈ R) → ∀ i, Plus W i i → i ∈ peel W n R
  | 0, R, h, i, hi => h i hi
  | n + 1, R, h, i, hi => by
    refine peel_keeps n _ (fun i hi => ?_) i hi
    rw [List.mem_filter]
    refine ⟨h i hi, ?_⟩
    obtain ⟨j, e, hj⟩ := hi.turn
    rw [List.any_eq_true]
    exact ⟨(j : Int), e.2, by simpa using h j hj⟩
theorem calm {W : List (List Int)} {n : Nat} (h : peel W n (List.range W.length) = []) (i : Nat) : ¬ Plus W i i := by
  intro hi
  have := peel_keeps n (List.range W.length) (fun i hi => by
    obtain ⟨j, e, _⟩ := hi.turn
    exact List.mem_range.2 e.1) i hi
  rw [h] at this
  cases this
/-- a row of places that goes by steps -/
def runs (W : List (List Int)) : Nat → List Nat → Nat → Bool
  | i, [], k => decide (i < W.length) && (W.getD i []).contains (k : Int)
  | i, j :: r, k => decide (i < W.length) && (W.getD i []).contains (j : Int) && runs W j r k
theorem runs_plus {W : List (List Int)} : ∀ (r : List Nat) (a i k : Nat), (a = i ∨ Plus W a i) → runs W i r k = true → Plus W a k
  | [], a, i, k, ha, h => by
    simp only [runs, Bool.and_eq_true, decide_eq_true_eq] at h
    have e : Edge W i k := ⟨h.1, by simpa using h.2⟩
    rcases ha with rfl | ha
    · exact Plus.one e
    · exact ha.step e
  | j :: r, a, i, k, ha, h => by
    simp only [runs, Bool.and_eq_true, decide_eq_true_eq] at h
    have e : Edge W i j := ⟨h.1.1, by simpa using h.1.2⟩
    refine runs_plus r a j k (.inr ?_) h.2
    rcases ha with rfl | ha
    · exact Plus.one e
    · exact ha.step e

/-- what may not be: no way, or waits that go round -/
def Bad (N : Int) (es : List (Int × Int)) (rs : List (List Int)) : Prop := (∃ v w : Nat, (v : Int) < N ∧ (w : Int) < N ∧ v ≠ w ∧ go es rs (w : Int) (N.toNat - 1) (v : Int) = []) ∨ ∃ i, Plus (rowsOf N.toNat rs (Plan.hops N es)) i i
def CheckIs (b : Bool) (N : Int) (es : List (Int × Int)) (rs : List (List Int)) (z : Int) : Prop := (b = false ∧ z = 120) ∨ (b = true ∧ Bad N es rs ∧ z = 140) ∨ (b = true ∧ ¬ Bad N es rs ∧ z = 0)
theorem CheckIs.same {b : Bool} {N : Int} {es : List (Int × Int)} {rs : List (List Int)} {z y : Int} (h : CheckIs b N es rs z) (k : CheckIs b N es rs y) : z = y := by
  rcases h with ⟨h1, rfl⟩ | ⟨h1, h2, rfl⟩ | ⟨h1, h2, rfl⟩ <;> rcases k with ⟨k1, rfl⟩ | ⟨k1, k2, rfl⟩ | ⟨k1, k2, rfl⟩ <;> first | rfl | exact absurd h2 k2 | exact absurd k2 h2 | exact absurd (h1.symm.trans k1) (by decide)

/-- marks: those that a row leads to are marked, too -/
def mark (S : List Int) (r : List Int) : List Int := r.foldl (fun s k => s.set k.toNat 1) S
def sweep1 (W : List (List Int)) (f : Nat) (S : List Int) (i : Nat) : List Int := if i ≠ f ∧ S.getD i 0 = 0 then S else mark S (W.getD i [])
def sweep (W : List (List Int)) (f : Nat) (S : List Int) : Nat → List Int
  | 0 => S
  | m + 1 => sweep1 W f (sweep W f S m) m
def sweeps (W : List (List Int)) (f : Nat) : Nat → List Int
  | 0 => List.replicate W.length 0
  | n + 1 => sweep W f (sweeps W f n) W.length
/-- marks of L places -/
structure Marks (L : Nat) (S : List Int) : Prop where
  len : S.length = L
  two : ∀ x ∈ S, x = 0 ∨ x = 1
def le (S T : List Int) : Prop := ∀ k : Nat, S.getD k 0 = 1 → T.getD k 0 = 1
theorem set_at {S : List Int} {k j : Nat} (hk : k < S.length) : (S.set k 1).getD j 0 = if j = k then 1 else S.getD j 0 := by
  rw [List.getD_eq_getElem?_getD, List.getD_eq_getElem?_getD]
  by_cases e : j = k
  · subst e; rw [if_pos rfl, List.getElem?_set_self hk]; rfl
  · rw [if_neg e, List.getElem?_set_ne (by omega)]
theorem mark_cons (S : List Int) (x : Int) (r : List Int) : mark S (x :: r) = mark (S.set x.toNat 1) r := rfl
theorem mark_snoc (S r : List Int) (x : Int) : mark S (r ++ [x]) = (mark S r).set x.toNat 1 := by simp [mark]
theorem mark_marks {L : Nat} : ∀ (r S : List Int), Marks L S → Marks L (mark S r)
  | [], S, h => h
  | x :: r, S, h => by
    rw [mark_cons]
    refine mark_marks r _ ⟨by rw [List.length_set]; exact h.len, fun y hy => ?_⟩
    rcases List.mem_or_eq_of_mem_set hy with hy | hy
    · exact h.two y hy
    · exact .inr hy
theorem mark_at {L : Nat} : ∀ (r S : List Int), Marks L S → (∀ x ∈ r, 0 ≤ x ∧ x < (L : Int)) → ∀ k : Nat, ((mark S r).getD k 0 = 1 ↔ S.getD k 0 = 1 ∨ (k : Int) ∈ r)
  | [], S, h, hr, k => by simp [mark]
  | x :: r, S, h, hr, k => by
    have hx := hr x List.mem_cons_self
    have hm : Marks L (S.set x.toNat 1) := mark_marks [x] S h
    rw [mark_cons, mark_at r _ hm (fun y hy => hr y (List.mem_cons_of_mem _ hy)) k, set_at (by rw [h.len]; omega), List.mem_cons]
    by_cases e : k = x.toNat
    · rw [if_pos e]
      have : (k : Int) = x := by omega
      simp [this]
    · rw [if_neg e]
      have : (k : Int) ≠ x := by omega
      simp [this]
theorem sweep1_marks {W : List (List Int)} {f L : Nat} {S : List Int} (h : Marks L S) (i : Nat) : Marks L (sweep1 W f S i) := by
  unfold sweep1
  split
  · exact h
  · exact mark_marks _ _ h
theorem sweep_marks {W : List (List Int)} {f L : Nat} {S : List Int} (h : Marks L S) : ∀ m, Marks L (sweep W f S m)
  | 0 => h
  | m + 1 => sweep1_marks (sweep_marks h m) m
theorem sweeps_marks (W : List (List Int)) (f : Nat) : ∀ n, Marks W.length (sweeps W f n)
  | 0 => ⟨List.length_replicate, fun x hx => .inl (List.eq_of_mem_replicate hx)⟩
  | n + 1 => sweep_marks (sweeps_marks W f n) _
theorem Marks.at {L : Nat} {S : List Int} (h : Marks L S) (k : Nat) : S.getD k 0 = 0 ∨ S.getD k 0 = 1 := by
  rw [List.getD_eq_getElem?_getD]
  by_cases hk : k < S.length
  · rw [List.getElem?_eq_getElem hk]
    exact h.two _ (List.getElem_mem hk)
  · rw [List.getElem?_eq_none (by omega)]
    exact .inl rfl
/-- marked are those to which steps lead -/
theorem sweep1_sound {W : List (List Int)} {f : Nat} {S : List Int} (hW : Fit W) (h : Marks W.length S) (hs : ∀ k : Nat, S.getD k 0 = 1 → Plus W f k) {i : Nat} (hi : i < W.length) : ∀ k : Nat, (sweep1 W f S i).getD k 0 = 1 → Plus W f k := by
  intro k hk
  unfold sweep1 at hk
  by_cases c : i ≠ f ∧ S.getD i 0 = 0
  · rw [if_pos c] at hk
    exact hs k hk
  · rw [if_neg c] at hk
    rcases (mark_at _ S h (hW i hi) k).1 hk with hk | hk
    · exact hs k hk
    · by_cases e : i = f
      · subst e; exact Plus.one ⟨hi, hk⟩
      · refine (hs i ?_).step ⟨hi, hk⟩
        rcases h.at i with h0 | h0
        · exact absurd ⟨e, h0⟩ c
        · exact h0
theorem sweep_sound {W : List (List Int)} {f : Nat} {S : List Int} (hW : Fit W) (h : Marks W.length S) (hs : ∀ k : Nat, S.getD k 0 = 1 → Plus W f k) : ∀ m, m ≤ W.length → ∀ k : Nat, (sweep W f S m).getD k 0 = 1 → Plus W f k
  | 0, _ => hs
  | m + 1, hm => sweep1_sound hW (sweep_marks h m) (sweep_sound hW h hs m (by omega)) (by omega)
theorem sweeps_sound {W : List (List Int)} (f : Nat) (hW : Fit W) : ∀ n, ∀ k : Nat, (sweeps W f n).getD k 0 = 1 → Plus W f k
  | 0, k, h => by
    unfold sweeps at h
    rw [List.getD_eq_getElem?_getD, List.getElem?_replicate] at h
    split at h <;> simp at h
  | n + 1, k, h => sweep_sound hW (sweeps_marks W f n) (sweeps_sound f hW n) _ (Nat.le_refl _) k h
theorem sweep1_le {W : List (List Int)} {f : Nat} {S : List Int} (hW : Fit W) (h : Marks W.length S) {i : Nat} (hi : i < W.length) : le S (sweep1 W f S i) := by
  intro k hk
  unfold sweep1
  split
  · exact hk
  · exact (mark_at _ S h (hW i hi) k).2 (.inl hk)
theorem sweep_le {W : List (List Int)} {f : Nat} {S : List Int} (hW : Fit W) (h : Marks W.length S) : ∀ m n, m ≤ n → n ≤ W.length → le (sweep W f S m) (sweep W f S n)
  | m, 0, h1, _ => by
    have : m = 0 := by omega
    subst this
    exact fun k hk => hk
  | m, n + 1, h1, h2 => by
    by_cases e : m = n + 1
    · subst e; exact fun k hk => hk
    · exact fun k hk => sweep1_le hW (sweep_marks h n) (by omega) k (sweep_le hW h m n (by omega) (by omega) k hk)
/-- how many are marked -/
def many (S : List Int) : Nat := S.countP (fun x => decide (x = 1))
theorem le_many : ∀ (S T : List Int), S.length = T.length → le S T → many S ≤ many T ∧ (many T ≤ many S → ∀ k : Nat, T.getD k 0 = 1 → S.getD k 0 = 1)
  | [], [], _, _ => ⟨Nat.le_refl _, fun _ k h => h⟩
  | [], y :: t, h, _ => by simp at h
  | x :: s, [], h, _ => by simp at h
  | x :: s, y :: t, hl, h => by
    obtain ⟨h1, h2⟩ := le_many s t (by simpa using hl) (fun k hk => by simpa using h (k + 1) (by simpa using hk))
    have h0 : x = 1 → y = 1 := fun e => by simpa using h 0 (by simpa using e)
    unfold many at *
    rw [List.countP_cons, List.countP_cons]
    by_cases ex : x = 1
    · have ey := h0 ex
      simp only [ex, ey, decide_true, if_true]
      refine ⟨by omega, fun hm k hk => ?_⟩
      cases k with
      | zero => simp
      | succ k => simpa using h2 (by omega) k (by simpa using hk)
    · by_cases ey : y = 1
      · simp only [ex, ey, decide_true, decide_false, if_true]
        refine ⟨by simp; omega, fun hm => ?_⟩
        simp at hm
        omega
      · simp only [ex, ey, decide_false]
        refine ⟨by simpa using h1, fun hm k hk => ?_⟩
        cases k with
        | zero => exact absurd (by simpa using hk) ey
        | succ k => simpa using h2 (by simpa using hm) k (by simpa using hk)
def Closed (W : List (List Int)) (f : Nat) (S : List Int) : Prop := ∀ i, i < W.length → (i = f ∨ S.getD i 0 = 1) → ∀ k : Nat, (k : Int) ∈ W.getD i [] → S.getD k 0 = 1
theorem sweep_gains {W : List (List Int)} {f : Nat} {S : List Int} (hW : Fit W) (h : Marks W.length S) : Closed W f (sweep W f S W.length) ∨ many S + 1 ≤ many (sweep W f S W.length) := by
  have hle := sweep_le (f := f) hW h 0 W.length (Nat.zero_le _) (Nat.le_refl _)
  have hlen : S.length = (sweep W f S W.length).length := by rw [h.len, (sweep_marks h _).len]
  obtain ⟨h1, h2⟩ := le_many S _ hlen hle
  by_cases e : many (sweep W f S W.length) ≤ many S
  · refine .inl fun i hi hc k hk => ?_
    have hS : ∀ m, m ≤ W.length → ∀ j : Nat, (sweep W f S m).getD j 0 = 1 → S.getD j 0 = 1 := fun m hm j hj => h2 e j (sweep_le hW h m _ hm (Nat.le_refl _) j hj)
    refine hle k (hS (i + 1) (by omega) k ?_)
    have hc' : i = f ∨ (sweep W f S i).getD i 0 = 1 := hc.imp_right fun hj => sweep_le hW h 0 i (Nat.zero_le _) (by omega) i (h2 e i hj)
    show (sweep1 W f (sweep W f S i) i).getD k 0 = 1
    unfold sweep1
    rw [if_neg (by
      rintro ⟨h3, h4⟩
      rcases hc' with h5 | h5
      · exact h3 h5
      · rw [h4] at h5; cases h5)]
    exact (mark_at _ _ (sweep_marks h i) (hW i hi) k).2 (.inr hk)
  · exact .inr (by omega)
theorem closed_sweep {W : List (List Int)} {f : Nat} {S : List Int} (hW : Fit W) (h : Marks W.length S) (hc : Closed W f S) : Closed W f (sweep W f S W.length) := by
  have key : ∀ m, m ≤ W.length → ∀ k : Nat, (sweep W f S m).getD k 0 = 1 → S.getD k 0 = 1 := by
    intro m
    induction m with
    | zero => exact fun _ k hk => hk
    | succ m ih =>
      intro hm k hk
      have hk' : (sweep1 W f (sweep W f S m) m).getD k 0 = 1 := hk
      unfold sweep1 at hk'
      by_cases c : m ≠ f ∧ (sweep W f S m).getD m 0 = 0
      · rw [if_pos c] at hk'
        exact ih (by omega) k hk'
      · rw [if_neg c] at hk'
        rcases (mark_at _ _ (sweep_marks h m) (hW m (by omega)) k).1 hk' with h1 | h1
        · exact ih (by omega) k h1
        · refine hc m (by omega) ?_ k h1
          by_cases e : m = f
          · exact .inl e
          · refine .inr (ih (by omega) m ?_)
            rcases (sweep_marks (W := W) (f := f) h m).at m with h0 | h0
            · exact absurd ⟨e, h0⟩ c
            · exact h0
  intro i hi hcond k hk
  exact sweep_le hW h 0 W.length (Nat.zero_le _) (Nat.le_refl _) k (hc i hi (hcond.imp_right fun hj => key _ (Nat.le_refl _) i hj) k hk)
theorem sweeps_closed {W : List (List Int)} (f : Nat) (hW : Fit W) : ∀ n, Closed W f (sweeps W f n) ∨ n ≤ many (sweeps W f n)
  | 0 => .inr (Nat.zero_le _)
  | n + 1 => by
    rcases sweeps_closed f hW n with h | h
    · exact .inl (closed_sweep hW (sweeps_marks W f n) h)
    · rcases sweep_gains (f := f) hW (sweeps_marks W f n) with h1 | h1
      · exact .inl h1
      · exact .inr (by show n + 1 ≤ many (sweep W f (sweeps W f n) W.length); omega)
theorem all_marked : ∀ (S : List Int), S.length ≤ many S → ∀ k : Nat, k < S.length → S.getD k 0 = 1
  | [], _, k, hk => by simp at hk
  | x :: s, h, k, hk => by
    unfold many at h
    rw [List.countP_cons] at h
    have h1 : s.countP (fun x => decide (x = 1)) ≤ s.length := List.countP_le_length
    have hx : x = 1 := by
      by_cases e : x = 1
      · exact e
      · simp [e] at h
        omega
    cases k with
    | zero => simpa using hx
    | succ k =>
      have := all_marked s (by unfold many; simp [hx] at h; omega) k (by simpa using hk)
      simpa using this
theorem reached {W : List (List Int)} {f : Nat} (hW : Fit W) (k : Nat) (hk : k < W.length) : (sweeps W f W.length).getD k 0 = 1 ↔ Plus W f k := by
  refine ⟨sweeps_sound f hW _ k, ?_⟩
  have hc : Closed W f (sweeps W f W.length) := by
    rcases sweeps_closed f hW W.length with h | h
    · exact h
    · intro i hi _ j hj
      have hm := sweeps_marks W f W.length
      have := hW i hi j hj
      exact all_marked _ (by rw [hm.len]; exact h) j (by rw [hm.len]; omega)
  rintro ⟨n, hn⟩
  have key : ∀ n k, steps W (n + 1) f k → (sweeps W f W.length).getD k 0 = 1 := by
    intro n
    induction n with
    | zero =>
      rintro k ⟨j, rfl, e⟩
      exact hc f e.1 (.inl rfl) k e.2
    | succ n ih =>
      rintro k ⟨j, hj, e⟩
      exact hc j e.1 (.inr (ih j hj)) k e.2
  exact key n k hn
end Go.Proofs.Ytphaaolnmbadcaa.Route
