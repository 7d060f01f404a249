/-
  Contracts and plain facts that the walks lean on (PlanMath, PlanRow). Conditions: none but those that each states.
-/
import Derived.Test.YtniicgbkeifnjaaGreatDoorQ1
import Derived.Maps.AppendAt
import Derived.Laws.OwnMore
import Derived.Lib.SliceRun
import Derived.Deep.RegionHeld3
namespace Go.Proofs.YtniicgbkeifnjaaGreatDoor.Plan
set_option linter.unusedVariables false
set_option maxRecDepth 100000
def rawE (v : Int) (e : Int × Int) : List Int := (if e.1 = v ∧ e.2 ≠ v then [e.2] else []) ++ (if e.2 = v ∧ e.1 ≠ v then [e.1] else [])
def raw (es : List (Int × Int)) (v : Int) : List Int := es.flatMap (rawE v)
theorem raw_snoc (es : List (Int × Int)) (e : Int × Int) (v : Int) : raw (es ++ [e]) v = raw es v ++ rawE v e := by simp [raw]
theorem rawE_len (v : Int) (e : Int × Int) : (rawE v e).length ≤ 1 := by
  unfold rawE
  by_cases h1 : e.1 = v ∧ e.2 ≠ v
  · have h2 : ¬ (e.2 = v ∧ e.1 ≠ v) := fun h => h1.2 h.1
    rw [if_pos h1, if_neg h2]
    simp
  · rw [if_neg h1]
    split <;> simp
theorem raw_len (v : Int) : ∀ es : List (Int × Int), (raw es v).length ≤ es.length
  | [] => by simp [raw]
  | e :: r => by
    have h1 := raw_len v r
    have h2 := rawE_len v e
    have h3 : raw (e :: r) v = rawE v e ++ raw r v := by simp [raw]
    rw [h3, List.length_append, List.length_cons]
    omega
theorem mem_rawE (v u : Int) (e : Int × Int) : u ∈ rawE v e ↔ u ≠ v ∧ (e = (v, u) ∨ e = (u, v)) := by
  obtain ⟨a, b⟩ := e
  unfold rawE
  simp only [Prod.mk.injEq]
  by_cases h1 : a = v <;> by_cases h2 : b = v <;> simp [h1, h2] <;> (first | omega | (constructor <;> intro h <;> omega) | skip)
theorem mem_raw (v u : Int) (es : List (Int × Int)) : u ∈ raw es v ↔ u ≠ v ∧ ((v, u) ∈ es ∨ (u, v) ∈ es) := by
  unfold raw
  rw [List.mem_flatMap]
  constructor
  · rintro ⟨e, he, hu⟩
    obtain ⟨h1, h2 | h2⟩ := (mem_rawE v u e).1 hu
    · subst h2; exact ⟨h1, .inl he⟩
    · subst h2; exact ⟨h1, .inr he⟩
  · rintro ⟨h1, h2 | h2⟩
    · exact ⟨_, h2, (mem_rawE v u _).2 ⟨h1, .inl rfl⟩⟩
    · exact ⟨_, h2, (mem_rawE v u _).2 ⟨h1, .inr rfl⟩⟩
def lay : List Int → Int → List Int
  | [], x => [x]
  | y :: r, x => if y < x then y :: lay r x else if y = x then x :: r else x :: y :: r
theorem lay_at (x : Int) : ∀ (l : List Int) (i : Nat), i ≤ l.length → (∀ j, j < i → l.getD j 0 < x) → (i < l.length → ¬ l.getD i 0 < x) → lay l x = l.take i ++ [x] ++ l.drop (if i < l.length ∧ l.getD i 0 = x then i + 1 else i)
  | [], i, h1, h2, h3 => by
    have : i = 0 := by simpa using h1
    subst this
    simp [lay]
  | y :: r, 0, h1, h2, h3 => by
    have h4 : ¬ y < x := by simpa using h3 (by simp)
    by_cases h5 : y = x
    · simp [lay, h5]
    · simp [lay, h4, h5]
  | y :: r, i + 1, h1, h2, h3 => by
    have h4 : y < x := by simpa using h2 0 (by omega)
    have h5 := lay_at x r i (by simpa using h1) (fun j hj => by simpa using h2 (j + 1) (by omega)) (fun hi => by simpa using h3 (by simpa using hi))
    rw [lay, if_pos h4, h5]
    by_cases h6 : i < r.length ∧ r.getD i 0 = x
    · have h7 : i + 1 < (y :: r).length ∧ (y :: r).getD (i + 1) 0 = x := by simpa using h6
      rw [if_pos h6, if_pos h7]
      simp
    · have h7 : ¬ (i + 1 < (y :: r).length ∧ (y :: r).getD (i + 1) 0 = x) := by simpa using h6
      rw [if_neg h6, if_neg h7]
      simp
theorem mem_lay (x u : Int) : ∀ l : List Int, u ∈ lay l x ↔ u = x ∨ u ∈ l
  | [] => by simp [lay]
  | y :: r => by
    have ih := mem_lay x u r
    unfold lay
    by_cases h1 : y < x
    · rw [if_pos h1, List.mem_cons, List.mem_cons, ih]
      constructor
      · rintro (h | h | h)
        · exact .inr (.inl h)
        · exact .inl h
        · exact .inr (.inr h)
      · rintro (h | h | h)
        · exact .inr (.inl h)
        · exact .inl h
        · exact .inr (.inr h)
    · rw [if_neg h1]
      by_cases h2 : y = x
      · rw [if_pos h2, List.mem_cons, List.mem_cons, h2]
        constructor
        · rintro (h | h)
          · exact .inl h
          · exact .inr (.inr h)
        · rintro (h | h | h)
          · exact .inl h
          · exact .inl h
          · exact .inr h
      · rw [if_neg h2, List.mem_cons]
def Asc (l : List Int) : Prop := l.Pairwise (· < ·)
theorem asc_lay (x : Int) : ∀ l : List Int, Asc l → Asc (lay l x)
  | [], h => by simp [lay, Asc]
  | y :: r, h => by
    obtain ⟨h1, h2⟩ := List.pairwise_cons.1 h
    unfold lay
    by_cases h3 : y < x
    · rw [if_pos h3]
      refine List.pairwise_cons.2 ⟨fun u hu => ?_, asc_lay x r h2⟩
      rcases (mem_lay x u r).1 hu with rfl | hu
      · exact h3
      · exact h1 u hu
    · rw [if_neg h3]
      by_cases h4 : y = x
      · rw [if_pos h4, ← h4]
        exact h
      · rw [if_neg h4]
        refine List.pairwise_cons.2 ⟨fun u hu => ?_, h⟩
        rcases List.mem_cons.1 hu with rfl | hu
        · omega
        · have := h1 u hu
          omega
theorem lay_len (x : Int) : ∀ l : List Int, (lay l x).length ≤ l.length + 1
  | [] => by simp [lay]
  | y :: r => by
    have := lay_len x r
    unfold lay
    split
    · simp; omega
    · split <;> simp
def bes (es : List (Int × Int)) (v : Int) : List Int := (raw es v).foldl lay []
theorem fold_mem (u : Int) : ∀ (xs l : List Int), u ∈ xs.foldl lay l ↔ u ∈ xs ∨ u ∈ l
  | [], l => by simp
  | x :: r, l => by
    rw [List.foldl_cons, fold_mem u r, mem_lay, List.mem_cons]
    constructor
    · rintro (h | h | h)
      · exact .inl (.inr h)
      · exact .inl (.inl h)
      · exact .inr h
    · rintro ((h | h) | h)
      · exact .inr (.inl h)
      · exact .inl h
      · exact .inr (.inr h)
theorem fold_asc : ∀ (xs l : List Int), Asc l → Asc (xs.foldl lay l)
  | [], l, h => h
  | x :: r, l, h => fold_asc r _ (asc_lay x l h)
theorem fold_len : ∀ (xs l : List Int), (xs.foldl lay l).length ≤ l.length + xs.length
  | [], l => by simp
  | x :: r, l => by
    have h1 := fold_len r (lay l x)
    have h2 := lay_len x l
    rw [List.foldl_cons, List.length_cons]
    omega
theorem bes_asc (es : List (Int × Int)) (v : Int) : Asc (bes es v) := fold_asc _ [] List.Pairwise.nil
theorem mem_bes (es : List (Int × Int)) (v u : Int) : u ∈ bes es v ↔ u ≠ v ∧ ((v, u) ∈ es ∨ (u, v) ∈ es) := by
  unfold bes
  rw [fold_mem, mem_raw]
  simp
theorem bes_len (es : List (Int × Int)) (v : Int) : (bes es v).length ≤ es.length := by
  have h1 := fold_len (raw es v) []
  have h2 := raw_len v es
  unfold bes
  simp at h1
  omega
theorem asc_ext : ∀ (l m : List Int), Asc l → Asc m → (∀ x, x ∈ l ↔ x ∈ m) → l = m
  | [], [], _, _, _ => rfl
  | [], y :: r, _, _, h => absurd ((h y).2 List.mem_cons_self) List.not_mem_nil
  | x :: r, [], _, _, h => absurd ((h x).1 List.mem_cons_self) List.not_mem_nil
  | x :: r, y :: s, h1, h2, h => by
    obtain ⟨a1, a2⟩ := List.pairwise_cons.1 h1
    obtain ⟨b1, b2⟩ := List.pairwise_cons.1 h2
    have e : x = y := by
      rcases List.mem_cons.1 ((h x).1 List.mem_cons_self) with e | e
      · exact e
      · rcases List.mem_cons.1 ((h y).2 List.mem_cons_self) with e' | e'
        · exact e'.symm
        · have := b1 x e
          have := a1 y e'
          omega
    subst e
    rw [asc_ext r s a2 b2 (fun u => ?_)]
    have hu := h u
    rw [List.mem_cons, List.mem_cons] at hu
    constructor
    · intro k
      rcases hu.1 (.inr k) with e | e
      · have := a1 u k; omega
      · exact e
    · intro k
      rcases hu.2 (.inr k) with e | e
      · have := b1 u k; omega
      · exact e
def place (u : Int) : List Int → Nat → Int
  | [], _ => -1
  | y :: r, k => if y = u then (k : Nat) + 1 else place u r (k + 1)
def port (es : List (Int × Int)) (v u : Int) : Int := place u (bes es v) 0
theorem place_mem {u : Int} {l : List Int} (h : u ∈ l) (k : Nat) : 1 ≤ place u l k := by
  induction l generalizing k with
  | nil => simp at h
  | cons y r ih =>
    unfold place
    split
    · omega
    · rename_i hy
      rcases List.mem_cons.1 h with e | e
      · exact absurd e.symm hy
      · exact ih e (k + 1)
def hopsOf (es : List (Int × Int)) (v : Nat) : List (Int × Int) := ((bes es v).filter fun u => decide (0 ≤ u) && decide (u < 6)).map fun u => ((v : Int), u)
def hopsTo (es : List (Int × Int)) (k : Nat) : List (Int × Int) := (List.range k).flatMap (hopsOf es)
def upto (N : Int) : Nat := min N.toNat 6
def hops (N : Int) (es : List (Int × Int)) : List (Int × Int) := hopsTo es (upto N)
theorem hopsTo_succ (es : List (Int × Int)) (k : Nat) : hopsTo es (k + 1) = hopsTo es k ++ hopsOf es k := by simp [hopsTo, List.range_succ]
theorem few_asc : ∀ (l : List Int) (a b : Int), Asc l → (∀ u ∈ l, a ≤ u ∧ u < b) → a ≤ b → (l.length : Int) ≤ b - a
  | [], a, b, _, _, h => by simp; omega
  | x :: r, a, b, h1, h2, h => by
    obtain ⟨a1, a2⟩ := List.pairwise_cons.1 h1
    have h3 := h2 x List.mem_cons_self
    have h4 := few_asc r (x + 1) b a2 (fun u hu => ⟨by have := a1 u hu; omega, (h2 u (List.mem_cons_of_mem _ hu)).2⟩) (by omega)
    rw [List.length_cons]
    omega
theorem hopsOf_len (es : List (Int × Int)) (v : Nat) : (hopsOf es v).length ≤ 6 := by
  have h := few_asc ((bes es v).filter fun u => decide (0 ≤ u) && decide (u < 6)) 0 6 ((bes_asc es v).filter _) (fun u hu => by
    have := (List.mem_filter.1 hu).2
    simpa using this) (by omega)
  unfold hopsOf
  rw [List.length_map]
  omega
theorem hopsTo_len (es : List (Int × Int)) (k : Nat) : (hopsTo es k).length ≤ 6 * k := by
  induction k with
  | zero => simp [hopsTo]
  | succ k ih =>
    have := hopsOf_len es k
    rw [hopsTo_succ, List.length_append]
    omega
def edgesOk (N : Int) (es : List (Int × Int)) : Bool := es.all (fun e => decide (0 ≤ e.1) && decide (e.1 < e.2) && decide (e.2 < N)) && decide es.Nodup && decide (es.length ≤ 15)
def bnd (z lo hi : Int) : Bool := decide (lo ≤ z) && decide (z ≤ hi)
def wsOk (ws : List Int) : Bool := ws.all (fun x => bnd x 1 5) && decide (1 ≤ ws.length) && decide (ws.length ≤ 3)
structure Num where
  nodes : Int
  lanes : Int
  room : Int
  queue : Int
  rounds : Int
  every : Int
  bag : Int
def fine (q : Num) : Bool := bnd q.nodes 2 6 && bnd q.lanes 1 3 && bnd q.room 1 8 && bnd q.queue 1 8 && bnd q.rounds 1 4 && bnd q.every 1 8 && bnd q.bag 1 64
def may (q : Num) (es : List (Int × Int)) (ws : List Int) (ns : List Nat) : Bool :=
  fine q && edgesOk q.nodes es && decide ((ws.length : Int) = q.lanes) && wsOk ws && decide ((ns.length : Int) = q.nodes) && ns.all (fun n => decide ((n : Int) = q.nodes))
def errno (b : Bool) : Int := if b then 0 else 120
end Go.Proofs.YtniicgbkeifnjaaGreatDoor.Plan
namespace Go.Proofs.YtniicgbkeifnjaaGreatDoor
open Go.ChangeShapes Go.WideShapes Go.ChangeAt Go.RowKit
set_option linter.unusedVariables false
set_option maxRecDepth 100000
theorem add_lit (b off j : Nat) : (⟨b, off, none⟩ : Addr).add j = ⟨b, off + j, none⟩ := by
  unfold Addr.add; split
  · rename_i h; rw [h]; rfl
  · rfl
def Zr (w : World) (a : Option Addr) (n : Nat) (l : List Int) : Prop := l.length = n ∧ n ≤ maxLen ∧ (n = 0 ∨ ∃ b off, a = some ⟨b, off, none⟩ ∧ b < w.heap.size ∧ ∀ i, i < n → w.cell? ⟨b, off + i, none⟩ = some (.int .i64 (l.getD i 0)))
theorem Zr.sans {F : Nat → Prop} {w w' : World} {a : Option Addr} {n : Nat} {l : List Int} (h : Zr w a n l) (k : Sans F w w') (hn : ∀ ad, a = some ad → ¬ F ad.block) : Zr w' a n l := by
  obtain ⟨h1, h2, h3⟩ := h
  refine ⟨h1, h2, ?_⟩
  rcases h3 with h3 | ⟨b, off, ha, hlt, hc⟩
  · exact .inl h3
  · exact .inr ⟨b, off, ha, Nat.lt_of_lt_of_le hlt k.size, fun i hi => (k.cell (p := ⟨b, off + i, none⟩) hlt (hn ⟨b, off, none⟩ ha)).trans (hc i hi)⟩
theorem Zr.below {w w' : World} {a : Option Addr} {n : Nat} {l : List Int} (h : Zr w a n l) (k : Below w.heap.size w w') : Zr w' a n l := h.sans (F := fun _ => False) (Sans.of_below k) (fun _ _ e => e)
theorem Zr.at {w : World} {a : Option Addr} {n : Nat} {l : List Int} (h : Zr w a n l) {k : Nat} (hk : k < n) : ∃ b off, a = some ⟨b, off, none⟩ ∧ w.cell? ⟨b, off + k, none⟩ = some (.int .i64 (l.getD k 0)) := by
  rcases h.2.2 with h0 | ⟨b, off, ha, hlt, hc⟩
  · omega
  · exact ⟨b, off, ha, hc k hk⟩
theorem Zr.nil {w : World} {a : Option Addr} : Zr w a 0 [] := ⟨rfl, by unfold maxLen; omega, .inl rfl⟩
def Pr (w : World) (a : Option Addr) (n : Nat) (ps : List (Int × Int)) : Prop := ps.length = n ∧ n ≤ maxLen ∧ (n = 0 ∨ ∃ b off, a = some ⟨b, off, none⟩ ∧ b < w.heap.size ∧ ∀ i, i < n → w.cell? ⟨b, off + i * 2, none⟩ = some (.int .i64 (ps.getD i (0, 0)).1) ∧ w.cell? ⟨b, off + i * 2 + 1, none⟩ = some (.int .i64 (ps.getD i (0, 0)).2))
theorem Pr.sans {F : Nat → Prop} {w w' : World} {a : Option Addr} {n : Nat} {l : List (Int × Int)} (h : Pr w a n l) (k : Sans F w w') (hn : ∀ ad, a = some ad → ¬ F ad.block) : Pr w' a n l := by
  obtain ⟨h1, h2, h3⟩ := h
  refine ⟨h1, h2, ?_⟩
  rcases h3 with h3 | ⟨b, off, ha, hlt, hc⟩
  · exact .inl h3
  · exact .inr ⟨b, off, ha, Nat.lt_of_lt_of_le hlt k.size, fun i hi => ⟨(k.cell (p := ⟨b, off + i * 2, none⟩) hlt (hn ⟨b, off, none⟩ ha)).trans (hc i hi).1, (k.cell (p := ⟨b, off + i * 2 + 1, none⟩) hlt (hn ⟨b, off, none⟩ ha)).trans (hc i hi).2⟩⟩
theorem Pr.below {w w' : World} {a : Option Addr} {n : Nat} {l : List (Int × Int)} (h : Pr w a n l) (k : Below w.heap.size w w') : Pr w' a n l := h.sans (F := fun _ => False) (Sans.of_below k) (fun _ _ e => e)
theorem Pr.at {w : World} {a : Option Addr} {n : Nat} {l : List (Int × Int)} (h : Pr w a n l) {k : Nat} (hk : k < n) : ∃ b off, a = some ⟨b, off, none⟩ ∧ w.cell? ⟨b, off + k * 2, none⟩ = some (.int .i64 (l.getD k (0, 0)).1) ∧ w.cell? ⟨b, off + k * 2 + 1, none⟩ = some (.int .i64 (l.getD k (0, 0)).2) := by
  rcases h.2.2 with h0 | ⟨b, off, ha, hlt, hc⟩
  · omega
  · exact ⟨b, off, ha, hc k hk⟩
theorem Pr.nil {w : World} {a : Option Addr} : Pr w a 0 [] := ⟨rfl, by unfold maxLen; omega, .inl rfl⟩
def Lr (w : World) (a : Option Addr) (n : Nat) (ns : List Nat) : Prop := ns.length = n ∧ n ≤ maxLen ∧ (n = 0 ∨ ∃ b off, a = some ⟨b, off, none⟩ ∧ b < w.heap.size ∧ ∀ i, i < n → ∃ ra rc, w.cell? ⟨b, off + i, none⟩ = some (.slice ra (ns.getD i 0) rc) ∧ ns.getD i 0 ≤ rc ∧ rc ≤ maxLen ∧ (ra = none → rc = 0))
theorem Lr.sans {F : Nat → Prop} {w w' : World} {a : Option Addr} {n : Nat} {l : List Nat} (h : Lr w a n l) (k : Sans F w w') (hn : ∀ ad, a = some ad → ¬ F ad.block) : Lr w' a n l := by
  obtain ⟨h1, h2, h3⟩ := h
  refine ⟨h1, h2, ?_⟩
  rcases h3 with h3 | ⟨b, off, ha, hlt, hc⟩
  · exact .inl h3
  · refine .inr ⟨b, off, ha, Nat.lt_of_lt_of_le hlt k.size, fun i hi => ?_⟩
    obtain ⟨ra, rc, e, r⟩ := hc i hi
    exact ⟨ra, rc, (k.cell (p := ⟨b, off + i, none⟩) hlt (hn ⟨b, off, none⟩ ha)).trans e, r⟩
theorem Lr.below {w w' : World} {a : Option Addr} {n : Nat} {l : List Nat} (h : Lr w a n l) (k : Below w.heap.size w w') : Lr w' a n l := h.sans (F := fun _ => False) (Sans.of_below k) (fun _ _ e => e)
theorem Lr.at {w : World} {a : Option Addr} {n : Nat} {l : List Nat} (h : Lr w a n l) {k : Nat} (hk : k < n) : ∃ b off ra rc, a = some ⟨b, off, none⟩ ∧ w.cell? ⟨b, off + k, none⟩ = some (.slice ra (l.getD k 0) rc) ∧ l.getD k 0 ≤ rc ∧ rc ≤ maxLen ∧ (ra = none → rc = 0) := by
  rcases h.2.2 with h0 | ⟨b, off, ha, hlt, hc⟩
  · omega
  · obtain ⟨ra, rc, r⟩ := hc k hk
    exact ⟨b, off, ra, rc, ha, r⟩
def zcells (l : List Int) : List Value := l.map (Value.int .i64)
theorem zcells_len (l : List Int) : (zcells l).length = l.length := List.length_map _
theorem zcells_append (l m : List Int) : zcells l ++ zcells m = zcells (l ++ m) := (List.map_append ..).symm
theorem zcells_at {l : List Int} {k : Nat} (h : k < l.length) : (zcells l)[k]? = some (.int .i64 (l.getD k 0)) := by
  unfold zcells
  rw [List.getElem?_map, List.getD_eq_getElem?_getD, List.getElem?_eq_getElem h]
  rfl
theorem zcells_one (l : List Int) : ∀ u ∈ zcells l, u.oneCell' = true := by
  intro u hu
  obtain ⟨k, _, rfl⟩ := List.mem_map.1 hu
  rfl
def pcells (xs : List (Int × Int)) : List Value := xs.flatMap fun x => [.int .i64 x.1, .int .i64 x.2]
theorem pcells_append (xs ys : List (Int × Int)) : pcells xs ++ pcells ys = pcells (xs ++ ys) := by simp [pcells]
theorem pcells_at : ∀ (xs : List (Int × Int)) (k : Nat), k < xs.length → (pcells xs)[k * 2]? = some (.int .i64 (xs.getD k (0, 0)).1) ∧ (pcells xs)[k * 2 + 1]? = some (.int .i64 (xs.getD k (0, 0)).2)
  | [], k, h => by simp at h
  | y :: r, 0, h => by simp [pcells]
  | y :: r, k + 1, h => by
    have := pcells_at r k (by simpa using h)
    have e : pcells (y :: r) = .int .i64 y.1 :: .int .i64 y.2 :: pcells r := by simp [pcells]
    rw [e, show (k + 1) * 2 = k * 2 + 1 + 1 by omega]
    simpa using this
theorem pcells_len (xs : List (Int × Int)) : (pcells xs).length = xs.length * 2 := by
  induction xs with
  | nil => rfl
  | cons x r ih =>
    have : pcells (x :: r) = [.int .i64 x.1, .int .i64 x.2] ++ pcells r := by simp [pcells]
    rw [this, List.length_append, ih]
    simp
    omega
theorem pcells_one (l : List (Int × Int)) : ∀ u ∈ pcells l, u.oneCell' = true := by
  intro u hu
  unfold pcells at hu
  obtain ⟨x, _, hx⟩ := List.mem_flatMap.1 hu
  simp only [List.mem_cons, List.not_mem_nil, or_false] at hx
  rcases hx with rfl | rfl <;> rfl
theorem infoI : (Tryz.prog.info? 3).map (fun i => (i.zero, i.size, i.bytes)) = some (some (.int .i64 0), 1, 8) := by kernel_rfl
theorem infoE : (Tryz.prog.info? 43).map (fun i => (i.zero, i.size, i.bytes)) = some (some (.agg #[.int .i64 0, .int .i64 0]), 2, 16) := by kernel_rfl
theorem infoH : (Tryz.prog.info? 229).map (fun i => (i.zero, i.size, i.bytes)) = some (some (.agg #[.int .i64 0, .int .i64 0]), 2, 16) := by kernel_rfl
theorem infoR : (Tryz.prog.info? 27).map (fun i => (i.zero, i.size, i.bytes)) = some (some (.slice none 0 0), 1, 24) := by kernel_rfl
theorem zr_of_owns {w : World} {base : Nat} {e : TypeId} {v : Value} {l : List Int} (h : w.ownsRow base e 1 v l.length (zcells l)) : ∃ a cap, v = .slice a l.length cap ∧ Zr w a l.length l ∧ l.length ≤ cap ∧ cap ≤ maxLen ∧ (a = none → cap = 0) ∧ ((a = none ∧ l = []) ∨ ∃ g, a = some ⟨g, 0, none⟩ ∧ base ≤ g ∧ g < w.heap.size) := by
  rcases h.2 with ⟨hv, h0⟩ | ⟨g, cap, cur, hv, hb, hg, hnc, hcm, hcs, htake⟩
  · subst hv
    have : l = [] := List.length_eq_zero_iff.1 h0
    subst this
    exact ⟨none, 0, rfl, Zr.nil, Nat.le_refl _, by unfold maxLen; omega, fun _ => rfl, .inl ⟨rfl, rfl⟩⟩
  · subst hv
    have hlt : g < w.heap.size := by
      rcases Nat.lt_or_ge g w.heap.size with h' | h'
      · exact h'
      · simp [Array.getElem?_eq_none h'] at hg
    refine ⟨some ⟨g, 0, none⟩, cap, rfl, ⟨rfl, by omega, .inr ⟨g, 0, rfl, hlt, fun i hi => ?_⟩⟩, hnc, hcm, (fun e => by cases e), .inr ⟨g, rfl, hb, hlt⟩⟩
    rw [Nat.zero_add, h.cellAt i (by omega)]
    exact zcells_at hi
theorem pr_of_owns {w : World} {base : Nat} {e : TypeId} {v : Value} {l : List (Int × Int)} (h : w.ownsRow base e 2 v l.length (pcells l)) : ∃ a cap, v = .slice a l.length cap ∧ Pr w a l.length l ∧ l.length ≤ cap ∧ cap ≤ maxLen ∧ (a = none → cap = 0) ∧ ((a = none ∧ l = []) ∨ ∃ g, a = some ⟨g, 0, none⟩ ∧ base ≤ g ∧ g < w.heap.size) := by
  rcases h.2 with ⟨hv, h0⟩ | ⟨g, cap, cur, hv, hb, hg, hnc, hcm, hcs, htake⟩
  · subst hv
    have : l = [] := List.length_eq_zero_iff.1 h0
    subst this
    exact ⟨none, 0, rfl, Pr.nil, Nat.le_refl _, by unfold maxLen; omega, fun _ => rfl, .inl ⟨rfl, rfl⟩⟩
  · subst hv
    have hlt : g < w.heap.size := by
      rcases Nat.lt_or_ge g w.heap.size with h' | h'
      · exact h'
      · simp [Array.getElem?_eq_none h'] at hg
    refine ⟨some ⟨g, 0, none⟩, cap, rfl, ⟨rfl, by omega, .inr ⟨g, 0, rfl, hlt, fun i hi => ?_⟩⟩, hnc, hcm, (fun e => by cases e), .inr ⟨g, rfl, hb, hlt⟩⟩
    have h1 := h.cellAt (i * 2) (by omega)
    have h2 := h.cellAt (i * 2 + 1) (by omega)
    have hp := pcells_at l i hi
    exact ⟨by rw [Nat.zero_add, h1]; exact hp.1, by rw [Nat.zero_add, h2]; exact hp.2⟩
theorem owns_below {w w' : World} {base n size : Nat} {e : TypeId} {v : Value} {xs : List Value} (h : w.ownsRow base e size v n xs) (k : Below w.heap.size w w') : w'.ownsRow base e size v n xs :=
  h.kept (row := Option.none) ⟨k.os, k.tape, k.output, k.size, fun j hj _ => k.block j hj⟩ (by cases hv : v.ownBlock with | none => exact .inl rfl | some k => exact .inr (by simp))
theorem drewN_below (w : World) (n : Nat) : Below w.heap.size w (w.drewN n) := ⟨rfl, rfl, rfl, Nat.le_refl _, fun _ _ => rfl⟩
theorem wpList_append_v {w : World} {ops : Array Oper} {rest : List Oper} {o : Oper} {a : Act} {Q : Exit → Act → World → Prop} (hgd : o.guard = none) (s x : Operand) (t e : TypeId)
    (ho : o.op = .call { callee := .builtin .append, args := #[s, x], argTypes := #[t, t] }) (z : Value) (size bytes : Nat) (ht : Tryz.prog.underlying t = some (.slice e)) (hinfo : (Tryz.prog.info? e).map (fun i => (i.zero, i.size, i.bytes)) = some (some z, size, bytes)) (hzs : z.cells.size = size) (hsz : 0 < size)
    (base : Nat) (v : Value) (n : Nat) (xs : List Value) (hs : a.eval s = v) (hown : w.ownsRow base e size v n xs) (hbase : base ≤ w.heap.size)
    (a2 : Option Addr) (m c : Nat) (news : List Value) (hx : a.eval x = .slice a2 m c) (hl : news.length = m * size) (hn2 : a2 = none → m = 0 ∧ c = 0) (hk : m = 0 ∨ ∃ ad, a2 = some ad ∧ ∀ (j : Nat) (u : Value), news[j]? = some u → w.cell? (ad.add j) = some u) (h1 : ∀ u ∈ news, u.oneCell' = true) (h63 : n + m ≤ maxLen) (hb : (n + m) * bytes ≤ 140737488355328)
    (h : ∀ v' w', w'.ownsRow base e size v' (n + m) (xs ++ news) → Below base w w' → w.grownBy w' v.ownBlock → (v'.ownBlock = v.ownBlock ∨ v'.ownBlock = some w.heap.size) → wpList Tryz.prog ops Q rest (a.put o.dst v') w') : wpList Tryz.prog ops Q (o :: rest) a w := by
  obtain ⟨i0, hi, hz0, hz1, hz2⟩ := info_parts hinfo
  cases a2 with
  | none =>
    obtain ⟨rfl, rfl⟩ := hn2 rfl
    obtain rfl : news = [] := List.length_eq_zero_iff.1 (by rw [hl]; simp)
    refine wpList_append_own_none hgd s x t ho base e i0 size ht hi v n xs hs hown hx ?_
    exact h v w (by rw [List.append_nil]; exact hown) (Below.refl _ _) ⟨rfl, rfl, rfl, Nat.le_refl _, fun _ _ _ => rfl⟩ (.inl rfl)
  | some ad =>
    refine wpList_append_own_at w hgd s x t ho base e i0 z size bytes ht hi hz0 hz1 hz2 hzs hsz v n xs hs hown ad m c news hx hl ?_ h1 h63 hb hbase ?_
    · intro j u hu
      rcases hk with rfl | ⟨ad', e, hc⟩
      · have := (List.getElem?_eq_some_iff.1 hu).1
        rw [hl] at this
        simp at this
      · cases e
        exact hc j u hu
    · intro v' w' hown' hg hnil hat
      exact h v' w' hown' ((Below.refl base w).grown hg hbase (fun k hk => (hown.lt k hk).1)) hg hat
theorem wpList_append_z {w : World} {ops : Array Oper} {rest : List Oper} {o : Oper} {a : Act} {Q : Exit → Act → World → Prop} (hgd : o.guard = none) (s x : Operand)
    (ho : o.op = .call { callee := .builtin .append, args := #[s, x], argTypes := #[27, 27] }) (base : Nat)
    (v : Value) (l : List Int) (hs : a.eval s = v) (hown : w.ownsRow base 3 1 v l.length (zcells l)) (hbase : base ≤ w.heap.size)
    (a2 : Option Addr) (m c : Nat) (new : List Int) (hx : a.eval x = .slice a2 m c) (h2 : Zr w a2 m new) (hn2 : a2 = none → m = 0 ∧ c = 0) (hm : l.length + m ≤ 17592186044416) (l3 : List Int) (hl3 : l ++ new = l3)
    (h : ∀ v' w', w'.ownsRow base 3 1 v' l3.length (zcells l3) → Below base w w' → wpList Tryz.prog ops Q rest (a.put o.dst v') w') : wpList Tryz.prog ops Q (o :: rest) a w := by
  have hl2 := h2.1
  refine wpList_append_v hgd s x 27 3 ho (.int .i64 0) 1 8 Tryz.underlying27 infoI rfl (by decide) base v l.length (zcells l) hs hown hbase a2 m c (zcells new) hx (by rw [zcells_len]; omega) hn2 ?_ (zcells_one new) (by unfold maxLen; omega) (by omega) ?_
  · rcases h2.2.2 with h0 | ⟨b, off, e, hlt, hc⟩
    · exact .inl h0
    · refine .inr ⟨_, e, fun j u hu => ?_⟩
      have hj : j < new.length := by
        have := (List.getElem?_eq_some_iff.1 hu).1
        rwa [zcells_len] at this
      rw [zcells_at hj] at hu
      rw [add_lit, ← hu]
      exact hc j (by omega)
  · intro v' w' hown' hB _ _
    rw [zcells_append, show l.length + m = (l ++ new).length by rw [List.length_append]; omega, hl3] at hown'
    exact h v' w' hown' hB
theorem wpList_append_p' {w : World} {ops : Array Oper} {rest : List Oper} {o : Oper} {a : Act} {Q : Exit → Act → World → Prop} (hgd : o.guard = none) (s x : Operand) (t e : TypeId)
    (ho : o.op = .call { callee := .builtin .append, args := #[s, x], argTypes := #[t, t] }) (ht : Tryz.prog.underlying t = some (.slice e)) (hinfo : (Tryz.prog.info? e).map (fun i => (i.zero, i.size, i.bytes)) = some (some (.agg #[.int .i64 0, .int .i64 0]), 2, 16)) (base : Nat)
    (v : Value) (l : List (Int × Int)) (hs : a.eval s = v) (hown : w.ownsRow base e 2 v l.length (pcells l)) (hbase : base ≤ w.heap.size)
    (a2 : Option Addr) (m c : Nat) (new : List (Int × Int)) (hx : a.eval x = .slice a2 m c) (h2 : Pr w a2 m new) (hn2 : a2 = none → m = 0 ∧ c = 0) (hm : l.length + m ≤ 8796093022208) (l3 : List (Int × Int)) (hl3 : l ++ new = l3)
    (h : ∀ v' w', w'.ownsRow base e 2 v' l3.length (pcells l3) → Below base w w' → w.grownBy w' v.ownBlock → (v'.ownBlock = v.ownBlock ∨ v'.ownBlock = some w.heap.size) → wpList Tryz.prog ops Q rest (a.put o.dst v') w') : wpList Tryz.prog ops Q (o :: rest) a w := by
  have hl2 := h2.1
  refine wpList_append_v hgd s x t e ho (.agg #[.int .i64 0, .int .i64 0]) 2 16 ht hinfo rfl (by decide) base v l.length (pcells l) hs hown hbase a2 m c (pcells new) hx (by rw [pcells_len]; omega) hn2 ?_ (pcells_one new) (by unfold maxLen; omega) (by omega) ?_
  · rcases h2.2.2 with h0 | ⟨b, off, e, hlt, hc⟩
    · exact .inl h0
    · refine .inr ⟨_, e, fun j u hu => ?_⟩
      have hj : j < new.length * 2 := by
        have := (List.getElem?_eq_some_iff.1 hu).1
        rwa [pcells_len] at this
      have hp := pcells_at new (j / 2) (by omega)
      have hcj := hc (j / 2) (by omega)
      rw [add_lit, ← hu]
      rcases Nat.mod_two_eq_zero_or_one j with e0 | e0
      · have ej : j = j / 2 * 2 := by omega
        have h3 := hcj.1.trans hp.1.symm
        rw [← ej] at h3
        exact h3
      · have ej : j = j / 2 * 2 + 1 := by omega
        have h3 := hcj.2.trans hp.2.symm
        rw [Nat.add_assoc, ← ej] at h3
        exact h3
  · intro v' w' hown' hB hg hat
    rw [pcells_append, show l.length + m = (l ++ new).length by rw [List.length_append]; omega, hl3] at hown'
    exact h v' w' hown' hB hg hat
theorem wpList_append_p {w : World} {ops : Array Oper} {rest : List Oper} {o : Oper} {a : Act} {Q : Exit → Act → World → Prop} (hgd : o.guard = none) (s x : Operand) (t e : TypeId)
    (ho : o.op = .call { callee := .builtin .append, args := #[s, x], argTypes := #[t, t] }) (ht : Tryz.prog.underlying t = some (.slice e)) (hinfo : (Tryz.prog.info? e).map (fun i => (i.zero, i.size, i.bytes)) = some (some (.agg #[.int .i64 0, .int .i64 0]), 2, 16)) (base : Nat)
    (v : Value) (l : List (Int × Int)) (hs : a.eval s = v) (hown : w.ownsRow base e 2 v l.length (pcells l)) (hbase : base ≤ w.heap.size)
    (a2 : Option Addr) (m c : Nat) (new : List (Int × Int)) (hx : a.eval x = .slice a2 m c) (h2 : Pr w a2 m new) (hn2 : a2 = none → m = 0 ∧ c = 0) (hm : l.length + m ≤ 8796093022208) (l3 : List (Int × Int)) (hl3 : l ++ new = l3)
    (h : ∀ v' w', w'.ownsRow base e 2 v' l3.length (pcells l3) → Below base w w' → wpList Tryz.prog ops Q rest (a.put o.dst v') w') : wpList Tryz.prog ops Q (o :: rest) a w :=
  wpList_append_p' hgd s x t e ho ht hinfo base v l hs hown hbase a2 m c new hx h2 hn2 hm l3 hl3 (fun v' w' h1 h2 _ _ => h v' w' h1 h2)
theorem zr_one (w : World) (z : Int) : Zr (w.alloc (.cells #[.int .i64 z] 3)) (some ⟨w.heap.size, 0, none⟩) 1 [z] := by
  refine ⟨rfl, by unfold maxLen; omega, .inr ⟨w.heap.size, 0, rfl, by simp, fun i hi => ?_⟩⟩
  obtain rfl : i = 0 := by omega
  simp
theorem Zr.grown {w w' : World} {a : Option Addr} {n : Nat} {l : List Int} {r : Option Nat} (h : Zr w a n l) (k : w.grownBy w' r) (hn : ∀ ad, a = some ad → r ≠ some ad.block) : Zr w' a n l :=
  h.sans (F := fun j => r = some j) (Sans.of_grown k (fun _ e => e)) (fun ad e => hn ad e)
theorem pr_one (w : World) (x y : Int) (t : TypeId) : Pr (w.alloc (.cells #[.int .i64 x, .int .i64 y] t)) (some ⟨w.heap.size, 0, none⟩) 1 [(x, y)] := by
  refine ⟨rfl, by unfold maxLen; omega, .inr ⟨w.heap.size, 0, rfl, by simp, fun i hi => ?_⟩⟩
  obtain rfl : i = 0 := by omega
  simp
theorem Zr.drop {w : World} {b off n i : Nat} {l : List Int} (h : Zr w (some ⟨b, off, none⟩) n l) (hi : i ≤ n) : Zr w (some ⟨b, off + i, none⟩) (n - i) (l.drop i) := by
  obtain ⟨h1, h2, h3⟩ := h
  refine ⟨by rw [List.length_drop, h1], by omega, ?_⟩
  rcases h3 with h3 | ⟨b', off', e, hlt, hc⟩
  · exact .inl (by omega)
  · simp only [Option.some.injEq, Addr.mk.injEq, and_true] at e
    obtain ⟨rfl, rfl⟩ := e
    refine .inr ⟨b, off + i, rfl, hlt, fun j hj => ?_⟩
    have := hc (i + j) (by omega)
    rw [Nat.add_assoc, this]
    congr 2
    simp [List.getD_eq_getElem?_getD]
structure PV where
  nodes : Int
  lanes : Int
  room : Int
  queue : Int
  rounds : Int
  every : Int
  bag : Int
  start : Int
  ea : Option Addr
  en : Nat
  ec : Nat
  wa : Option Addr
  wn : Nat
  wc : Nat
  na : Option Addr
  nn : Nat
  nc : Nat
def PV.val (p : PV) : Value := .agg #[.int .i64 p.nodes, .slice p.ea p.en p.ec, .int .i64 p.lanes, .int .i64 p.room, .int .i64 p.queue, .int .i64 p.rounds, .int .i64 p.every, .int .i64 p.bag, .slice p.wa p.wn p.wc, .int .u16 p.start, .slice p.na p.nn p.nc]
def PV.num (p : PV) : Plan.Num := ⟨p.nodes, p.lanes, p.room, p.queue, p.rounds, p.every, p.bag⟩
def I64 (z : Int) : Prop := -9223372036854775808 ≤ z ∧ z ≤ 9223372036854775807
structure Pl (w : World) (p : PV) (es : List (Int × Int)) (ws : List Int) (ns : List Nat) : Prop where
  he : Pr w p.ea p.en es
  hw : Zr w p.wa p.wn ws
  hn : Lr w p.na p.nn ns
  eb : p.en ≤ 8796093022208
  wb : p.wn ≤ 17592186044416
  nb : p.nn ≤ 8796093022208
  ec : p.en ≤ p.ec ∧ p.ec ≤ maxLen
  wc : p.wn ≤ p.wc ∧ p.wc ≤ maxLen
  nc : p.nn ≤ p.nc ∧ p.nc ≤ maxLen
  ei : ∀ x ∈ es, I64 x.1 ∧ I64 x.2
  wi : ∀ x ∈ ws, I64 x
  qi : I64 p.nodes ∧ I64 p.lanes ∧ I64 p.room ∧ I64 p.queue ∧ I64 p.rounds ∧ I64 p.every ∧ I64 p.bag
theorem Pl.below {w w' : World} {p : PV} {es : List (Int × Int)} {ws : List Int} {ns : List Nat} (h : Pl w p es ws ns) (k : Below w.heap.size w w') : Pl w' p es ws ns :=
  ⟨h.he.below k, h.hw.below k, h.hn.below k, h.eb, h.wb, h.nb, h.ec, h.wc, h.nc, h.ei, h.wi, h.qi⟩
end Go.Proofs.YtniicgbkeifnjaaGreatDoor
