/-
  Plans as plain lists: nodes beside one, ports, hops, what may be, and the plans that choices make. Conditions: none.
-/
import Derived.Test.YtphaaolnmbadcaaCrcMath
namespace Go.Proofs.Ytphaaolnmbadcaa.Plan
set_option linter.unusedVariables false

/-- all that edges join with v, in the edges' order -/
def rawE (v : Int) (e : Int × Int) : List Int := (if e.1 = v ∧ e.2 ≠ v then [e.2] else []) ++ (if e.2 = v ∧ e.1 ≠ v then [e.1] else [])
def raw (es : List (Int × Int)) (v : Int) : List Int := es.flatMap (rawE v)
theorem raw_snoc (es : List (Int × Int)) (e : Int × Int) (v : Int) : raw (es ++ [e]) v = raw es v ++ rawE v e := by simp [raw]
theorem rawE_len (v : Int) (e : Int × Int) : (rawE v e).length ≤ 1 := by
  unfold rawE
  by_cases h1 : e.1 = v ∧ e.2 ≠ v
  · have h2 : ¬ (e.2 = v ∧ e.1 ≠ v) := fun h => h1.2 h.1
    rw [if_pos h1, if_neg h2]
    simp
  · rw [if_neg h1]
    split <;> simp
theorem raw_len (v : Int) : ∀ es : List (Int × Int), (raw es v).length ≤ es.length
  | [] => by simp [raw]
  | e :: r => by
    have h1 := raw_len v r
    have h2 := rawE_len v e
    have h3 : raw (e :: r) v = rawE v e ++ raw r v := by simp [raw]
    rw [h3, List.length_append, List.length_cons]
    omega
theorem mem_rawE (v u : Int) (e : Int × Int) : u ∈ rawE v e ↔ u ≠ v ∧ (e = (v, u) ∨ e = (u, v)) := by
  obtain ⟨a, b⟩ := e
  unfold rawE
  simp only [Prod.mk.injEq]
  by_cases h1 : a = v <;> by_cases h2 : b = v <;> simp [h1, h2] <;> (first | omega | (constructor <;> intro h <;> omega) | skip)
theorem mem_raw (v u : Int) (es : List (Int × Int)) : u ∈ raw es v ↔ u ≠ v ∧ ((v, u) ∈ es ∨ (u, v) ∈ es) := by
  unfold raw
  rw [List.mem_flatMap]
  constructor
  · rintro ⟨e, he, hu⟩
    obtain ⟨h1, h2 | h2⟩ := (mem_rawE v u e).1 hu
    · subst h2; exact ⟨h1, .inl he⟩
    · subst h2; exact ⟨h1, .inr he⟩
  · rintro ⟨h1, h2 | h2⟩
    · exact ⟨_, h2, (mem_rawE v u _).2 ⟨h1, .inl rfl⟩⟩
    · exact ⟨_, h2, (mem_rawE v u _).2 ⟨h1, .inr rfl⟩⟩

/-- one more, in its place, once -/
def lay : List Int → Int → List Int
  | [], x => [x]
  | y :: r, x => if y < x then y :: lay r x else if y = x then x :: r else x :: y :: r
theorem lay_at (x : Int) : ∀ (l : List Int) (i : Nat), i ≤ l.length → (∀ j, j < i → l.getD j 0 < x) → (i < l.length → ¬ l.getD i 0 < x) → lay l x = l.take i ++ [x] ++ l.drop (if i < l.length ∧ l.getD i 0 = x then i + 1 else i)
  | [], i, h1, h2, h3 => by
    have : i = 0 := by simpa using h1
    subst this
    simp [lay]
  | y :: r, 0, h1, h2, h3 => by
    have h4 : ¬ y < x := by simpa using h3 (by simp)
    by_cases h5 : y = x
    · simp [lay, h5]
    · simp [lay, h4, h5]
  | y :: r, i + 1, h1, h2, h3 => by
    have h4 : y < x := by simpa using h2 0 (by omega)
    have h5 := lay_at x r i (by simpa using h1) (fun j hj => by simpa using h2 (j + 1) (by omega)) (fun hi => by simpa using h3 (by simpa using hi))
    rw [lay, if_pos h4, h5]
    by_cases h6 : i < r.length ∧ r.getD i 0 = x
    · have h7 : i + 1 < (y :: r).length ∧ (y :: r).getD (i + 1) 0 = x := by simpa using h6
      rw [if_pos h6, if_pos h7]
      simp
    · have h7 : ¬ (i + 1 < (y :: r).length ∧ (y :: r).getD (i + 1) 0 = x) := by simpa using h6
      rw [if_neg h6, if_neg h7]
      simp
theorem mem_lay (x u : Int) : ∀ l : List Int, u ∈ lay l x ↔ u = x ∨ u ∈ l
  | [] => by simp [lay]
  | y :: r => by
    have ih := mem_lay x u r
    unfold lay
    by_cases h1 : y < x
    · rw [if_pos h1, List.mem_cons, List.mem_cons, ih]
      constructor
      · rintro (h | h | h)
        · exact .inr (.inl h)
        · exact .inl h
        · exact .inr (.inr h)
      · rintro (h | h | h)
        · exact .inr (.inl h)
        · exact .inl h
        · exact .inr (.inr h)
    · rw [if_neg h1]
      by_cases h2 : y = x
      · rw [if_pos h2, List.mem_cons, List.mem_cons, h2]
        constructor
        · rintro (h | h)
          · exact .inl h
          · exact .inr (.inr h)
        · rintro (h | h | h)
          · exact .inl h
          · exact .inl h
          · exact .inr h
      · rw [if_neg h2, List.mem_cons]
def Asc (l : List Int) : Prop := l.Pairwise (· < ·)
theorem asc_lay (x : Int) : ∀ l : List Int, Asc l → Asc (lay l x)
  | [], h => by simp [lay, Asc]
  | y :: r, h => by
    obtain ⟨h1, h2⟩ := List.pairwise_cons.1 h
    unfold lay
    by_cases h3 : y < x
    · rw [if_pos h3]
      refine List.pairwise_cons.2 ⟨fun u hu => ?_, asc_lay x r h2⟩
      rcases (mem_lay x u r).1 hu with rfl | hu
      · exact h3
      · exact h1 u hu
    · rw [if_neg h3]
      by_cases h4 : y = x
      · rw [if_pos h4, ← h4]
        exact h
      · rw [if_neg h4]
        refine List.pairwise_cons.2 ⟨fun u hu => ?_, h⟩
        rcases List.mem_cons.1 hu with rfl | hu
        · omega
        · have := h1 u hu
          omega
theorem lay_len (x : Int) : ∀ l : List Int, (lay l x).length ≤ l.length + 1
  | [] => by simp [lay]
  | y :: r => by
    have := lay_len x r
    unfold lay
    split
    · simp; omega
    · split <;> simp
/-- who is beside v -/
def bes (es : List (Int × Int)) (v : Int) : List Int := (raw es v).foldl lay []
theorem fold_mem (u : Int) : ∀ (xs l : List Int), u ∈ xs.foldl lay l ↔ u ∈ xs ∨ u ∈ l
  | [], l => by simp
  | x :: r, l => by
    rw [List.foldl_cons, fold_mem u r, mem_lay, List.mem_cons]
    constructor
    · rintro (h | h | h)
      · exact .inl (.inr h)
      · exact .inl (.inl h)
      · exact .inr h
    · rintro ((h | h) | h)
      · exact .inr (.inl h)
      · exact .inl h
      · exact .inr (.inr h)
theorem fold_asc : ∀ (xs l : List Int), Asc l → Asc (xs.foldl lay l)
  | [], l, h => h
  | x :: r, l, h => fold_asc r _ (asc_lay x l h)
theorem fold_len : ∀ (xs l : List Int), (xs.foldl lay l).length ≤ l.length + xs.length
  | [], l => by simp
  | x :: r, l => by
    have h1 := fold_len r (lay l x)
    have h2 := lay_len x l
    rw [List.foldl_cons, List.length_cons]
    omega
theorem bes_asc (es : List (Int × Int)) (v : Int) : Asc (bes es v) := fold_asc _ [] List.Pairwise.nil
theorem mem_bes (es : List (Int × Int)) (v u : Int) : u ∈ bes es v ↔ u ≠ v ∧ ((v, u) ∈ es ∨ (u, v) ∈ es) := by
  unfold bes
  rw [fold_mem, mem_raw]
  simp
theorem bes_len (es : List (Int × Int)) (v : Int) : (bes es v).length ≤ es.length := by
  have h1 := fold_len (raw es v) []
  have h2 := raw_len v es
  unfold bes
  simp at h1
  omega
theorem asc_ext : ∀ (l m : List Int), Asc l → Asc m → (∀ x, x ∈ l ↔ x ∈ m) → l = m
  | [], [], _, _, _ => rfl
  | [], y :: r, _, _, h => absurd ((h y).2 List.mem_cons_self) List.not_mem_nil
  | x :: r, [], _, _, h => absurd ((h x).1 List.mem_cons_self) List.not_mem_nil
  | x :: r, y :: s, h1, h2, h => by
    obtain ⟨a1, a2⟩ := List.pairwise_cons.1 h1
    obtain ⟨b1, b2⟩ := List.pairwise_cons.1 h2
    have e : x = y := by
      rcases List.mem_cons.1 ((h x).1 List.mem_cons_self) with e | e
      · exact e
      · rcases List.mem_cons.1 ((h y).2 List.mem_cons_self) with e' | e'
        · exact e'.symm
        · have := b1 x e
          have := a1 y e'
          omega
    subst e
    rw [asc_ext r s a2 b2 (fun u => ?_)]
    have hu := h u
    rw [List.mem_cons, List.mem_cons] at hu
    constructor
    · intro k
      rcases hu.1 (.inr k) with e | e
      · have := a1 u k; omega
      · exact e
    · intro k
      rcases hu.2 (.inr k) with e | e
      · have := b1 u k; omega
      · exact e
/-- the port of v that leads to u -/
def place (u : Int) : List Int → Nat → Int
  | [], _ => -1
  | y :: r, k => if y = u then (k : Nat) + 1 else place u r (k + 1)
def port (es : List (Int × Int)) (v u : Int) : Int := place u (bes es v) 0
theorem place_hit (u : Int) : ∀ (l : List Int) (k i : Nat), i < l.length → l.getD i 0 = u → (∀ j, j < i → l.getD j 0 ≠ u) → place u l k = ((k + i : Nat) : Int) + 1
  | [], k, i, h1, _, _ => by simp at h1
  | y :: r, k, 0, h1, h2, h3 => by
    have : y = u := by simpa using h2
    simp [place, this]
  | y :: r, k, i + 1, h1, h2, h3 => by
    have h4 : y ≠ u := by simpa using h3 0 (by omega)
    rw [place, if_neg h4, place_hit u r (k + 1) i (by simpa using h1) (by simpa using h2) (fun j hj => by simpa using h3 (j + 1) (by omega))]
    congr 2
    omega
theorem place_miss (u : Int) : ∀ (l : List Int) (k : Nat), (∀ j, j < l.length → l.getD j 0 ≠ u) → place u l k = -1
  | [], k, _ => rfl
  | y :: r, k, h => by
    have h4 : y ≠ u := by simpa using h 0 (by simp)
    rw [place, if_neg h4, place_miss u r (k + 1) (fun j hj => by simpa using h (j + 1) (by simpa using hj))]
theorem place_mem {u : Int} {l : List Int} (h : u ∈ l) (k : Nat) : 1 ≤ place u l k := by
  induction l generalizing k with
  | nil => simp at h
  | cons y r ih =>
    unfold place
    split
    · omega
    · rename_i hy
      rcases List.mem_cons.1 h with e | e
      · exact absurd e.symm hy
      · exact ih e (k + 1)
/-- all hops -/
def hopsOf (es : List (Int × Int)) (v : Nat) : List (Int × Int) := ((bes es v).filter fun u => decide (0 ≤ u) && decide (u < 6)).map fun u => ((v : Int), u)
def hopsTo (es : List (Int × Int)) (k : Nat) : List (Int × Int) := (List.range k).flatMap (hopsOf es)
def upto (N : Int) : Nat := min N.toNat 6
def hops (N : Int) (es : List (Int × Int)) : List (Int × Int) := hopsTo es (upto N)
theorem hopsTo_succ (es : List (Int × Int)) (k : Nat) : hopsTo es (k + 1) = hopsTo es k ++ hopsOf es k := by simp [hopsTo, List.range_succ]
theorem few_asc : ∀ (l : List Int) (a b : Int), Asc l → (∀ u ∈ l, a ≤ u ∧ u < b) → a ≤ b → (l.length : Int) ≤ b - a
  | [], a, b, _, _, h => by simp; omega
  | x :: r, a, b, h1, h2, h => by
    obtain ⟨a1, a2⟩ := List.pairwise_cons.1 h1
    have h3 := h2 x List.mem_cons_self
    have h4 := few_asc r (x + 1) b a2 (fun u hu => ⟨by have := a1 u hu; omega, (h2 u (List.mem_cons_of_mem _ hu)).2⟩) (by omega)
    rw [List.length_cons]
    omega
theorem hopsOf_len (es : List (Int × Int)) (v : Nat) : (hopsOf es v).length ≤ 6 := by
  have h := few_asc ((bes es v).filter fun u => decide (0 ≤ u) && decide (u < 6)) 0 6 ((bes_asc es v).filter _) (fun u hu => by
    have := (List.mem_filter.1 hu).2
    simpa using this) (by omega)
  unfold hopsOf
  rw [List.length_map]
  omega
theorem hopsTo_len (es : List (Int × Int)) (k : Nat) : (hopsTo es k).length ≤ 6 * k := by
  induction k with
  | zero => simp [hopsTo]
  | succ k ih =>
    have := hopsOf_len es k
    rw [hopsTo_succ, List.length_append]
    omega

/-- edges that may be -/
def edgesOk (N : Int) (es : List (Int × Int)) : Bool := es.all (fun e => decide (0 ≤ e.1) && decide (e.1 < e.2) && decide (e.2 < N)) && decide es.Nodup && decide (es.length ≤ 15)
def bnd (z lo hi : Int) : Bool := decide (lo ≤ z) && decide (z ≤ hi)
def wsOk (ws : List Int) : Bool := ws.all (fun x => bnd x 1 5) && decide (1 ≤ ws.length) && decide (ws.length ≤ 3)
/-- a plan's numbers -/
structure Num where
  nodes : Int
  lanes : Int
  room : Int
  queue : Int
  rounds : Int
  every : Int
  bag : Int
def fine (q : Num) : Bool := bnd q.nodes 2 6 && bnd q.lanes 1 3 && bnd q.room 1 8 && bnd q.queue 1 8 && bnd q.rounds 1 4 && bnd q.every 1 8 && bnd q.bag 1 64
/-- a plan that may be -/
def may (q : Num) (es : List (Int × Int)) (ws : List Int) (ns : List Nat) : Bool :=
  fine q && edgesOk q.nodes es && decide ((ws.length : Int) = q.lanes) && wsOk ws && decide ((ns.length : Int) = q.nodes) && ns.all (fun n => decide ((n : Int) = q.nodes))
def errno (b : Bool) : Int := if b then 0 else 120
end Go.Proofs.Ytphaaolnmbadcaa.Plan
