/-
  Rows of rows of numbers: as a slice leads to them, and as the call's own that grows row by row; a plan laid by a tree. Conditions: none.
-/
import Derived.Test.YtphaaolnmbadcaaRefTreeB
import Derived.Test.YtphaaolnmbadcaaPlanMake
namespace Go.Proofs.Ytphaaolnmbadcaa
open Go.ChangeShapes Go.WideShapes Go.ChangeAt Go.RowKit
set_option linter.unusedVariables false

/-- a value that is a slice that leads to l -/
def RowV (w : World) (x : Value) (l : List Int) : Prop := ∃ ra rc, x = .slice ra l.length rc ∧ Zr w ra l.length l ∧ l.length ≤ rc ∧ rc ≤ maxLen ∧ (ra = none → rc = 0)
/-- .. and none of it lies below base, or in block r -/
def RowA (w : World) (base : Nat) (r : Option Nat) (x : Value) (l : List Int) : Prop := ∃ ra rc, x = .slice ra l.length rc ∧ Zr w ra l.length l ∧ l.length ≤ rc ∧ rc ≤ maxLen ∧ (ra = none → rc = 0) ∧ (∀ ad, ra = some ad → base ≤ ad.block ∧ ad.block < w.heap.size ∧ r ≠ some ad.block)
theorem RowA.v {w : World} {base : Nat} {r : Option Nat} {x : Value} {l : List Int} (h : RowA w base r x l) : RowV w x l := by
  obtain ⟨ra, rc, h1, h2, h3, h4, h5, _⟩ := h
  exact ⟨ra, rc, h1, h2, h3, h4, h5⟩
theorem RowA.sans {F : Nat → Prop} {w w' : World} {base : Nat} {r : Option Nat} {x : Value} {l : List Int} (h : RowA w base r x l) (k : Sans F w w') (hF : ∀ j, base ≤ j → r ≠ some j → ¬ F j) : RowA w' base r x l := by
  obtain ⟨ra, rc, h1, h2, h3, h4, h5, h6⟩ := h
  exact ⟨ra, rc, h1, h2.sans k (fun ad e => hF _ (h6 ad e).1 (h6 ad e).2.2), h3, h4, h5, fun ad e => ⟨(h6 ad e).1, Nat.lt_of_lt_of_le (h6 ad e).2.1 k.size, (h6 ad e).2.2⟩⟩
theorem RowV.sans {F : Nat → Prop} {w w' : World} {x : Value} {l : List Int} (h : RowV w x l) (k : Sans F w w') (hF : ∀ a n c ad, x = .slice a n c → a = some ad → ¬ F ad.block) : RowV w' x l := by
  obtain ⟨ra, rc, h1, h2, h3, h4, h5⟩ := h
  exact ⟨ra, rc, h1, h2.sans k (fun ad e => hF _ _ _ ad h1 e), h3, h4, h5⟩
theorem RowV.below {w w' : World} {x : Value} {l : List Int} (h : RowV w x l) (k : Below w.heap.size w w') : RowV w' x l := h.sans (F := fun _ => False) (Sans.of_below k) (fun _ _ _ _ _ _ e => e)
/-- the slice leads to rows -/
def Mr (w : World) (a : Option Addr) (n : Nat) (rs : List (List Int)) : Prop := rs.length = n ∧ n ≤ maxLen ∧ (n = 0 ∨ ∃ b off, a = some ⟨b, off, none⟩ ∧ b < w.heap.size ∧ ∀ i, i < n → ∃ x, w.cell? ⟨b, off + i, none⟩ = some x ∧ RowV w x (rs.getD i []))
theorem Mr.below {w w' : World} {a : Option Addr} {n : Nat} {rs : List (List Int)} (h : Mr w a n rs) (k : Below w.heap.size w w') : Mr w' a n rs := by
  obtain ⟨h1, h2, h3⟩ := h
  refine ⟨h1, h2, ?_⟩
  rcases h3 with h3 | ⟨b, off, e, hlt, hc⟩
  · exact .inl h3
  · refine .inr ⟨b, off, e, Nat.lt_of_lt_of_le hlt k.size, fun i hi => ?_⟩
    obtain ⟨x, hx, hv⟩ := hc i hi
    exact ⟨x, (k.cell (p := ⟨b, off + i, none⟩) hlt).trans hx, hv.below k⟩
theorem Mr.at {w : World} {a : Option Addr} {n : Nat} {rs : List (List Int)} (h : Mr w a n rs) {k : Nat} (hk : k < n) : ∃ b off ra rc, a = some ⟨b, off, none⟩ ∧ w.cell? ⟨b, off + k, none⟩ = some (.slice ra (rs.getD k []).length rc) ∧ Zr w ra (rs.getD k []).length (rs.getD k []) ∧ (rs.getD k []).length ≤ rc ∧ rc ≤ maxLen ∧ (ra = none → rc = 0) := by
  rcases h.2.2 with h0 | ⟨b, off, e, hlt, hc⟩
  · omega
  · obtain ⟨x, hx, ra, rc, h1, h2, h3, h4, h5⟩ := hc k hk
    subst h1
    exact ⟨b, off, ra, rc, e, hx, h2, h3, h4, h5⟩
theorem Mr.lr {w : World} {a : Option Addr} {n : Nat} {rs : List (List Int)} (h : Mr w a n rs) : Lr w a n (rs.map List.length) := by
  obtain ⟨h1, h2, h3⟩ := h
  refine ⟨by rw [List.length_map]; exact h1, h2, ?_⟩
  rcases h3 with h3 | ⟨b, off, e, hlt, hc⟩
  · exact .inl h3
  · refine .inr ⟨b, off, e, hlt, fun i hi => ?_⟩
    obtain ⟨x, hx, ra, rc, e1, h2, h3, h4, h5⟩ := hc i hi
    have hg : (rs.map List.length).getD i 0 = (rs.getD i []).length := by
      rw [List.getD_eq_getElem?_getD, List.getElem?_map, List.getD_eq_getElem?_getD, List.getElem?_eq_getElem (show i < rs.length by omega)]
      rfl
    rw [hg]
    subst e1
    exact ⟨ra, rc, hx, h3, h4, h5⟩
/-- rows of the call's own, so far k of them, in the slice v -/
structure Rb (w : World) (base : Nat) (v : Value) (k : Nat) (rs : List (List Int)) (vs : List Value) : Prop where
  own : w.ownsRow base 23 1 v k vs
  lv : vs.length = k
  lr : rs.length = k
  row : ∀ i, i < k → RowA w base v.ownBlock (vs.getD i undef) (rs.getD i [])
theorem Rb.nil (w : World) (base : Nat) : Rb w base (.slice none 0 0) 0 [] [] := ⟨World.ownsRow_nil _ _ _ _, rfl, rfl, fun i hi => by omega⟩
theorem Rb.sans {F : Nat → Prop} {w w' : World} {base : Nat} {v : Value} {k : Nat} {rs : List (List Int)} {vs : List Value} (h : Rb w base v k rs vs) (s : Sans F w w') (hF : ∀ j, base ≤ j → ¬ F j) : Rb w' base v k rs vs :=
  ⟨owns_sans h.own s hF, h.lv, h.lr, fun i hi => (h.row i hi).sans s (fun j hj _ => hF j hj)⟩
theorem Rb.one {w : World} {base : Nat} {v : Value} {k : Nat} {rs : List (List Int)} {vs : List Value} (h : Rb w base v k rs vs) : ∀ u ∈ vs, u.oneCell' = true := by
  intro u hu
  obtain ⟨i, hi, rfl⟩ := List.getElem_of_mem hu
  have hk := h.lv
  obtain ⟨ra, rc, e, _⟩ := h.row i (by omega)
  rw [List.getD_eq_getElem?_getD, List.getElem?_eq_getElem hi] at e
  simp only [Option.getD_some] at e
  rw [e]
  rfl
theorem getD_snoc_lt {α : Type} (l : List α) (x d : α) {i : Nat} (h : i < l.length) : (l ++ [x]).getD i d = l.getD i d := by
  rw [List.getD_eq_getElem?_getD, List.getElem?_append_left h, List.getD_eq_getElem?_getD]
theorem getD_snoc_eq {α : Type} (l : List α) (x d : α) : (l ++ [x]).getD l.length d = x := by
  rw [List.getD_eq_getElem?_getD, List.getElem?_append_right (Nat.le_refl _)]
  simp
/-- one row more -/
theorem Rb.push {w w' : World} {o : Obj} {base : Nat} {v v' x : Value} {k : Nat} {rs : List (List Int)} {vs : List Value} {l : List Int} (h : Rb w base v k rs vs) (hx : RowA w base v.ownBlock x l) (hown : w'.ownsRow base 23 1 v' (k + 1) (vs ++ [x])) (hg : (w.alloc o).grownBy w' v.ownBlock) (hat : v'.ownBlock = v.ownBlock ∨ v'.ownBlock = some (w.alloc o).heap.size) : Rb w' base v' (k + 1) (rs ++ [l]) (vs ++ [x]) := by
  have s : Sans (fun j => v.ownBlock = some j) w w' := (Sans.alloc w o).then (Sans.of_grown hg (fun j e => e))
  have keep : ∀ {x : Value} {l : List Int}, RowA w base v.ownBlock x l → RowA w' base v'.ownBlock x l := by
    intro x l hr
    obtain ⟨ra, rc, h1, h2, h3, h4, h5, h6⟩ := hr
    refine ⟨ra, rc, h1, h2.sans s (fun ad e hb => (h6 ad e).2.2 hb), h3, h4, h5, fun ad e => ⟨(h6 ad e).1, Nat.lt_of_lt_of_le (h6 ad e).2.1 s.size, ?_⟩⟩
    rcases hat with e2 | e2
    · rw [e2]; exact (h6 ad e).2.2
    · rw [e2]
      intro e3
      have := (h6 ad e).2.1
      simp only [World.size_alloc, Option.some.injEq] at e3
      omega
  refine ⟨hown, by rw [List.length_append, h.lv]; rfl, by rw [List.length_append, h.lr]; rfl, fun i hi => ?_⟩
  by_cases e : i < k
  · rw [getD_snoc_lt vs x undef (by rw [h.lv]; exact e), getD_snoc_lt rs l [] (by rw [h.lr]; exact e)]
    exact keep (h.row i e)
  · obtain rfl : i = k := by omega
    have e1 := getD_snoc_eq vs x undef
    have e2 := getD_snoc_eq rs l []
    rw [h.lv] at e1
    rw [h.lr] at e2
    rw [e1, e2]
    exact keep hx
theorem mr_of_rb {w : World} {base : Nat} {v : Value} {k : Nat} {rs : List (List Int)} {vs : List Value} (h : Rb w base v k rs vs) : ∃ a cap, v = .slice a k cap ∧ Mr w a k rs ∧ k ≤ cap ∧ cap ≤ maxLen ∧ (a = none → cap = 0) ∧ (∀ ad, a = some ad → base ≤ ad.block) := by
  have hl := h.lr
  rcases h.own.2 with ⟨hv', h0⟩ | ⟨g, cap, cur, hv', hb, hg, hnc, hcm, hcs, htake⟩
  · subst hv'
    subst h0
    exact ⟨none, 0, rfl, ⟨hl, by unfold maxLen; omega, .inl rfl⟩, Nat.le_refl _, Nat.zero_le _, fun _ => rfl, fun ad e => by cases e⟩
  · subst hv'
    have hlt : g < w.heap.size := by
      rcases Nat.lt_or_ge g w.heap.size with h' | h'
      · exact h'
      · simp [Array.getElem?_eq_none h'] at hg
    refine ⟨some ⟨g, 0, none⟩, cap, rfl, ⟨hl, by omega, .inr ⟨g, 0, rfl, hlt, fun i hi => ?_⟩⟩, hnc, hcm, (fun e => by cases e), fun ad e => by cases e; exact hb⟩
    have hv := h.lv
    have hc := h.own.cellAt i (by omega)
    rw [List.getElem?_eq_getElem (by omega)] at hc
    have hr := (h.row i hi).v
    rw [List.getD_eq_getElem?_getD, List.getElem?_eq_getElem (show i < vs.length by omega)] at hr
    rw [Nat.zero_add]
    exact ⟨_, hc, hr⟩
/-- a plan laid by the tree ps: its edges and ways, new weights, all else as it was -/
structure Laid (base : Nat) (p : PV) (ps ws : List Int) (q : PV) (w' : World) : Prop where
  nodes : q.nodes = ((ps.length + 1 : Nat) : Int)
  lanes : q.lanes = p.lanes
  room : q.room = p.room
  queue : q.queue = p.queue
  rounds : q.rounds = p.rounds
  every : q.every = p.every
  bag : q.bag = p.bag
  start : q.start = p.start
  he : w'.ownsRow base 31 2 (.slice q.ea q.en q.ec) (Tree.edges ps).length (pcells (Tree.edges ps))
  hw : w'.ownsRow base 3 1 (.slice q.wa q.wn q.wc) ws.length (zcells ws)
  hn : ∃ vs, Rb w' base (.slice q.na q.nn q.nc) (Tree.rows ps).length (Tree.rows ps) vs
theorem Rb.mono {w : World} {base base' : Nat} {v : Value} {k : Nat} {rs : List (List Int)} {vs : List Value} (h : Rb w base v k rs vs) (hb : base' ≤ base) : Rb w base' v k rs vs :=
  ⟨owns_mono h.own hb, h.lv, h.lr, fun i hi => by
    obtain ⟨ra, rc, h1, h2, h3, h4, h5, h6⟩ := h.row i hi
    exact ⟨ra, rc, h1, h2, h3, h4, h5, fun ad e => ⟨Nat.le_trans hb (h6 ad e).1, (h6 ad e).2⟩⟩⟩
theorem Laid.sans {F : Nat → Prop} {base : Nat} {p q : PV} {ps ws : List Int} {w w' : World} (h : Laid base p ps ws q w) (s : Sans F w w') (hF : ∀ j, base ≤ j → ¬ F j) : Laid base p ps ws q w' := by
  obtain ⟨vs, hv⟩ := h.hn
  exact ⟨h.nodes, h.lanes, h.room, h.queue, h.rounds, h.every, h.bag, h.start, owns_sans h.he s hF, owns_sans h.hw s hF, vs, hv.sans s hF⟩
theorem Laid.below {base : Nat} {p q : PV} {ps ws : List Int} {w w' : World} (h : Laid base p ps ws q w) (k : Below w.heap.size w w') : Laid base p ps ws q w' := h.sans (F := fun _ => False) (Sans.of_below k) (fun _ _ e => e)
theorem Laid.pr {base : Nat} {p q : PV} {ps ws : List Int} {w : World} (h : Laid base p ps ws q w) : Pr w q.ea q.en (Tree.edges ps) ∧ q.en ≤ q.ec ∧ q.ec ≤ maxLen ∧ (q.ea = none → q.ec = 0) := by
  obtain ⟨a, cap, e, hz, h1, h2, h3, _⟩ := pr_of_owns h.he
  simp only [Value.slice.injEq] at e
  obtain ⟨e1, e2, e3⟩ := e
  rw [e1, e2, e3]
  exact ⟨hz, h1, h2, h3⟩
theorem Laid.mr {base : Nat} {p q : PV} {ps ws : List Int} {w : World} (h : Laid base p ps ws q w) : Mr w q.na q.nn (Tree.rows ps) ∧ q.nn ≤ q.nc ∧ q.nc ≤ maxLen ∧ (q.na = none → q.nc = 0) := by
  obtain ⟨vs, hv⟩ := h.hn
  obtain ⟨a, cap, e, hz, h1, h2, h3, _⟩ := mr_of_rb hv
  simp only [Value.slice.injEq] at e
  obtain ⟨e1, e2, e3⟩ := e
  rw [e1, e2, e3]
  exact ⟨hz, h1, h2, h3⟩
end Go.Proofs.Ytphaaolnmbadcaa
