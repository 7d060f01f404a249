/-
  Contracts and plain facts that the walks lean on (NodeP, NodeQ). Conditions: none but those that each states.
-/
import Derived.Test.YtniicgbkeifnjaaGreatDoorQ32
namespace Go.Proofs.YtniicgbkeifnjaaGreatDoor
open Go.ChangeShapes Go.WideShapes Go.ChangeAt Go.RowKit
set_option linter.unusedVariables false
set_option maxRecDepth 100000
namespace Nd
structure PB where
  wq : Nat
  xb : Nat
  fb : Nat
  lb : Nat
  sq : Nat → Nat
  rq : Nat → Nat
  lo : Nat
  mid : Nat
  hi : Nat
structure PGood (w : World) (L : Nat) (wt : Nat → Int) (r : PB) : Prop where
  o1 : r.lo ≤ r.mid
  o2 : r.mid ≤ r.hi
  o3 : r.hi ≤ w.heap.size
  whl : Whl w r.wq r.xb r.fb L wt wt 0
  iq : r.mid ≤ r.wq ∧ r.wq < r.hi
  ix : r.mid ≤ r.xb ∧ r.xb < r.hi
  jf : r.mid ≤ r.fb ∧ r.fb < r.hi
structure LGood (w : World) (L l lo mid lb : Nat) (st rm : Int) (sq rq : Nat → Nat) : Prop where
  blo : lo ≤ lb
  bmid : lb < mid
  mw : mid ≤ w.heap.size
  has : ∀ j, j < L * 2 → (∃ y, w.cell? ⟨lb, j, none⟩ = some y) ∧ w.frozen? ⟨lb, j, none⟩ = false
  row : ∀ k, k < l → w.cell? ⟨lb, k * 2, none⟩ = some (.pointer (some ⟨sq k, 0, none⟩)) ∧ w.cell? ⟨lb, k * 2 + 1, none⟩ = some (.pointer (some ⟨rq k, 0, none⟩))
  sn : ∀ k, k < l → Cr.Snd w (sq k) st (st + rm)
  rc : ∀ k, k < l → Bf.Rcv w (rq k) st rm 0
  si : ∀ k, k < l → (lb < sq k ∧ sq k < mid) ∧ (lb < rq k ∧ rq k < mid)
  ne : ∀ k k', k < l → k' < l → sq k ≠ rq k' ∧ (k ≠ k' → sq k ≠ sq k' ∧ rq k ≠ rq k')
section
variable {w w' : World} {E : Nat → Prop} {L l lo mid lb : Nat} {wt : Nat → Int} {r : PB} {st rm : Int} {sq rq : Nat → Nat}
theorem PGood.sans (h : PGood w L wt r) (k : Sans E w w') (hE : ∀ j, r.lo ≤ j → j < r.hi → ¬ E j) : PGood w' L wt r :=
  ⟨h.o1, h.o2, Nat.le_trans h.o3 k.size, h.whl.sans k (hE _ (Nat.le_trans h.o1 h.iq.1) h.iq.2) (hE _ (Nat.le_trans h.o1 h.ix.1) h.ix.2) (hE _ (Nat.le_trans h.o1 h.jf.1) h.jf.2), h.iq, h.ix, h.jf⟩
theorem PGood.below (h : PGood w L wt r) (k : Below w.heap.size w w') : PGood w' L wt r := h.sans (E := fun _ => False) (Sans.of_below k) (fun _ _ _ e => e)
theorem LGood.sans (h : LGood w L l lo mid lb st rm sq rq) (k : Sans E w w') (hE : ∀ j, lo ≤ j → j < mid → ¬ E j) : LGood w' L l lo mid lb st rm sq rq := by
  have hl : lb < w.heap.size := Nat.lt_of_lt_of_le h.bmid h.mw
  have hn := hE lb h.blo h.bmid
  refine ⟨h.blo, h.bmid, Nat.le_trans h.mw k.size, fun j hj => ?_, fun j hj => ⟨(k.cell (p := ⟨lb, j * 2, none⟩) hl hn).trans (h.row j hj).1, (k.cell (p := ⟨lb, j * 2 + 1, none⟩) hl hn).trans (h.row j hj).2⟩, fun j hj => (h.sn j hj).sans k (hE _ (Nat.le_trans h.blo (Nat.le_of_lt (h.si j hj).1.1)) (h.si j hj).1.2), fun j hj => (h.rc j hj).sans k (hE _ (Nat.le_trans h.blo (Nat.le_of_lt (h.si j hj).2.1)) (h.si j hj).2.2), h.si, h.ne⟩
  obtain ⟨⟨y, a⟩, b⟩ := h.has j hj
  exact ⟨⟨y, (k.cell (p := ⟨lb, j, none⟩) hl hn).trans a⟩, (k.frozen (p := ⟨lb, j, none⟩) hl hn).trans b⟩
theorem LGood.below (h : LGood w L l lo mid lb st rm sq rq) (k : Below w.heap.size w w') : LGood w' L l lo mid lb st rm sq rq := h.sans (E := fun _ => False) (Sans.of_below k) (fun _ _ _ e => e)
theorem LGood.wider {mid' : Nat} (h : LGood w L l lo mid lb st rm sq rq) (h1 : mid ≤ mid') (h2 : mid' ≤ w.heap.size) : LGood w L l lo mid' lb st rm sq rq :=
  ⟨h.blo, Nat.lt_of_lt_of_le h.bmid h1, h2, h.has, h.row, h.sn, h.rc, fun k hk => ⟨⟨(h.si k hk).1.1, Nat.lt_of_lt_of_le (h.si k hk).1.2 h1⟩, ⟨(h.si k hk).2.1, Nat.lt_of_lt_of_le (h.si k hk).2.2 h1⟩⟩, h.ne⟩
theorem LGood.more (h : LGood w L l lo mid lb st rm sq rq) (hl : l < L) {W : World} {a b : Nat} (hB : Below w.heap.size w W) (ha : w.heap.size ≤ a) (hb : w.heap.size ≤ b) (hab : a ≠ b) (hs : Cr.Snd W a st (st + rm)) (hr : Bf.Rcv W b st rm 0) (la : a < W.heap.size) (lb' : b < W.heap.size) :
    LGood ((W.setCell ⟨lb, l * 2, none⟩ (.pointer (some ⟨a, 0, none⟩))).setCell ⟨lb, l * 2 + 1, none⟩ (.pointer (some ⟨b, 0, none⟩))) L (l + 1) lo W.heap.size lb st rm (up1 sq l a) (up1 rq l b) ∧ Sans (fun j => j = lb) W ((W.setCell ⟨lb, l * 2, none⟩ (.pointer (some ⟨a, 0, none⟩))).setCell ⟨lb, l * 2 + 1, none⟩ (.pointer (some ⟨b, 0, none⟩))) := by
  have hW := h.below hB
  have hm := h.mw
  have hmb := h.bmid
  have S1 : Sans (fun j => j = lb) W (W.setCell ⟨lb, l * 2, none⟩ (.pointer (some ⟨a, 0, none⟩))) := Sans.of_set _ _ _ rfl
  have S : Sans (fun j => j = lb) W ((W.setCell ⟨lb, l * 2, none⟩ (.pointer (some ⟨a, 0, none⟩))).setCell ⟨lb, l * 2 + 1, none⟩ (.pointer (some ⟨b, 0, none⟩))) := S1.then (Sans.of_set _ _ _ rfl)
  obtain ⟨⟨y0, q0⟩, _⟩ := hW.has (l * 2) (by omega)
  obtain ⟨⟨y1, q1⟩, _⟩ := hW.has (l * 2 + 1) (by omega)
  have q1' : (W.setCell ⟨lb, l * 2, none⟩ (.pointer (some ⟨a, 0, none⟩))).cell? ⟨lb, l * 2 + 1, none⟩ = some y1 := cell_set q1 (by omega)
  have e0 : ((W.setCell ⟨lb, l * 2, none⟩ (.pointer (some ⟨a, 0, none⟩))).setCell ⟨lb, l * 2 + 1, none⟩ (.pointer (some ⟨b, 0, none⟩))).cell? ⟨lb, l * 2, none⟩ = some (.pointer (some ⟨a, 0, none⟩)) := cell_set (World.cell?_setCell_same _ _ _ q0) (by omega)
  have e1 : ((W.setCell ⟨lb, l * 2, none⟩ (.pointer (some ⟨a, 0, none⟩))).setCell ⟨lb, l * 2 + 1, none⟩ (.pointer (some ⟨b, 0, none⟩))).cell? ⟨lb, l * 2 + 1, none⟩ = some (.pointer (some ⟨b, 0, none⟩)) := World.cell?_setCell_same _ _ _ q1'
  have old : ∀ j y, W.cell? ⟨lb, j, none⟩ = some y → j ≠ l * 2 → j ≠ l * 2 + 1 → ((W.setCell ⟨lb, l * 2, none⟩ (.pointer (some ⟨a, 0, none⟩))).setCell ⟨lb, l * 2 + 1, none⟩ (.pointer (some ⟨b, 0, none⟩))).cell? ⟨lb, j, none⟩ = some y := fun j y hy h1 h2 => cell_set (cell_set hy (by omega)) (by omega)
  have hsz : W.heap.size ≤ ((W.setCell ⟨lb, l * 2, none⟩ (.pointer (some ⟨a, 0, none⟩))).setCell ⟨lb, l * 2 + 1, none⟩ (.pointer (some ⟨b, 0, none⟩))).heap.size := S.size
  refine ⟨⟨h.blo, by have := hB.size; omega, hsz, fun j hj => ?_, fun j hj => ?_, fun j hj => ?_, fun j hj => ?_, fun j hj => ?_, fun j j' hj hj' => ?_⟩, S⟩
  · obtain ⟨⟨y, q⟩, fz⟩ := hW.has j hj
    refine ⟨?_, by rw [World.frozen?_setCell, World.frozen?_setCell]; exact fz⟩
    by_cases h0 : j = l * 2
    · exact ⟨_, by rw [h0]; exact e0⟩
    · by_cases h1 : j = l * 2 + 1
      · exact ⟨_, by rw [h1]; exact e1⟩
      · exact ⟨y, old j y q h0 h1⟩
  · by_cases e : j = l
    · subst e
      rw [up1_same, up1_same]
      exact ⟨e0, e1⟩
    · rw [up1_not _ _ e, up1_not _ _ e]
      have := hW.row j (by omega)
      exact ⟨old _ _ this.1 (by omega) (by omega), old _ _ this.2 (by omega) (by omega)⟩
  · by_cases e : j = l
    · subst e
      rw [up1_same]
      exact hs.sans S (by omega)
    · rw [up1_not _ _ e]
      have := (hW.si j (by omega)).1
      exact (hW.sn j (by omega)).sans S (by omega)
  · by_cases e : j = l
    · subst e
      rw [up1_same]
      exact hr.sans S (by omega)
    · rw [up1_not _ _ e]
      have := (hW.si j (by omega)).2
      exact (hW.rc j (by omega)).sans S (by omega)
  · by_cases e : j = l
    · subst e
      rw [up1_same, up1_same]
      omega
    · rw [up1_not _ _ e, up1_not _ _ e]
      have := h.si j (by omega)
      have := hB.size
      omega
  · by_cases e : j = l
    · by_cases e' : j' = l
      · subst e e'
        rw [up1_same, up1_same]
        exact ⟨hab, fun e => absurd rfl e⟩
      · rw [e, up1_same, up1_same, up1_not _ _ e', up1_not _ _ e']
        have := h.si j' (by omega)
        omega
    · by_cases e' : j' = l
      · rw [e', up1_same, up1_same, up1_not _ _ e, up1_not _ _ e]
        have := h.si j (by omega)
        omega
      · rw [up1_not _ _ e, up1_not _ _ e, up1_not _ _ e', up1_not _ _ e']
        exact h.ne j j' (by omega) (by omega)
end
structure PRow where
  q : Nat
  d : Int
  l : Value
def prow (ps : List PRow) : List Value := ps.flatMap (fun p => [.pointer (some ⟨p.q, 0, none⟩), .int .i64 p.d, p.l])
theorem prow_append (R Q : List PRow) : prow R ++ prow Q = prow (R ++ Q) := by simp [prow]
theorem prow_at : ∀ {R : List PRow} {j : Nat} {r : PRow}, R[j]? = some r → (prow R)[j * 3]? = some (.pointer (some ⟨r.q, 0, none⟩)) ∧ (prow R)[j * 3 + 1]? = some (.int .i64 r.d) ∧ (prow R)[j * 3 + 2]? = some r.l
  | [], _, _, h => by simp at h
  | x :: t, 0, r, h => by
    simp at h
    subst h
    exact ⟨rfl, rfl, rfl⟩
  | x :: t, j + 1, r, h => by
    have : prow (x :: t) = [.pointer (some ⟨x.q, 0, none⟩), .int .i64 x.d, x.l] ++ prow t := by simp [prow]
    have ih := prow_at (R := t) (j := j) (r := r) (by simpa using h)
    rw [this, List.getElem?_append_right (by simp; omega), List.getElem?_append_right (by simp; omega), List.getElem?_append_right (by simp; omega)]
    simp only [List.length_cons, List.length_nil]
    rw [show (j + 1) * 3 - (0 + 1 + 1 + 1) = j * 3 by omega, show (j + 1) * 3 + 1 - (0 + 1 + 1 + 1) = j * 3 + 1 by omega, show (j + 1) * 3 + 2 - (0 + 1 + 1 + 1) = j * 3 + 2 by omega]
    exact ih
structure Parts (w : World) (base L : Nat) (wt : Nat → Int) (st rm v0 : Int) (bs : List Int) (k : Nat) (v : Value) (r : Nat → PB) (ps : List PRow) : Prop where
  len : ps.length = k + 1
  own : w.ownsRow base 113 3 v (k + 1) (prow ps)
  at0 : ps[0]? = some ⟨(r 0).wq, v0, .slice none 0 0⟩
  atk : ∀ i, 1 ≤ i → i ≤ k → ps[i]? = some ⟨(r i).wq, bs.getD (i - 1) 0, .slice (some ⟨(r i).lb, 0, none⟩) L L⟩
  good : ∀ i, i ≤ k → PGood w L wt (r i)
  lane : ∀ i, 1 ≤ i → i ≤ k → LGood w L L (r i).lo (r i).mid (r i).lb st rm (r i).sq (r i).rq
  lo0 : base ≤ (r 0).lo
  lohi : ∀ i, i < k → (r i).hi ≤ (r (i + 1)).lo
  vb : ∀ pb, v.ownBlock = some pb → ∀ i, i ≤ k → ¬ ((r i).lo ≤ pb ∧ pb < (r i).hi)
section
variable {w w' : World} {base L k : Nat} {wt : Nat → Int} {st rm v0 : Int} {bs : List Int} {v v' : Value} {r : Nat → PB} {ps : List PRow}
theorem Parts.below (h : Parts w base L wt st rm v0 bs k v r ps) (B : Below w.heap.size w w') : Parts w' base L wt st rm v0 bs k v r ps :=
  ⟨h.len, owns_below h.own B, h.at0, h.atk, fun i hi => (h.good i hi).below B, fun i h1 h2 => (h.lane i h1 h2).below B, h.lo0, h.lohi, h.vb⟩
theorem Parts.more (h : Parts w base L wt st rm v0 bs k v r ps) {rk : PB} {p : PRow} (hg : PGood w L wt rk) (hl : LGood w L L rk.lo rk.mid rk.lb st rm rk.sq rk.rq) (hlo : (r k).hi ≤ rk.lo) (hvb : ∀ pb, v.ownBlock = some pb → pb < rk.lo) (hp : p = ⟨rk.wq, bs.getD k 0, .slice (some ⟨rk.lb, 0, none⟩) L L⟩)
    (hown : w'.ownsRow base 113 3 v' (k + 1 + 1) (prow ps ++ prow [p])) (S : Sans (fun j => v.ownBlock = some j) w w') (hat : v'.ownBlock = v.ownBlock ∨ ∃ g, v'.ownBlock = some g ∧ w.heap.size ≤ g) :
    Parts w' base L wt st rm v0 bs (k + 1) v' (up1 r (k + 1) rk) (ps ++ [p]) := by
  have hlen := h.len
  have hE : ∀ i, i ≤ k → ∀ j, (r i).lo ≤ j → j < (r i).hi → ¬ v.ownBlock = some j := fun i hi j h1 h2 e => h.vb j e i hi ⟨h1, h2⟩
  have hEk : ∀ j, rk.lo ≤ j → j < rk.hi → ¬ v.ownBlock = some j := fun j h1 h2 e => by have := hvb j e; omega
  have low : ∀ i, i ≤ k → up1 r (k + 1) rk i = r i := fun i hi => up1_not _ _ (by omega)
  have g3 : ∀ i, i ≤ k → (r i).hi ≤ w.heap.size := fun i hi => (h.good i hi).o3
  refine ⟨by rw [List.length_append, hlen]; rfl, by rw [← prow_append]; exact hown, ?_, fun i h1 h2 => ?_, fun i hi => ?_, fun i h1 h2 => ?_, by rw [low 0 (by omega)]; exact h.lo0, fun i hi => ?_, fun pb e i hi => ?_⟩
  · rw [low 0 (by omega), List.getElem?_append_left (by omega)]
    exact h.at0
  · by_cases e : i = k + 1
    · subst e
      rw [up1_same, List.getElem?_append_right (by omega), show k + 1 - ps.length = 0 by omega, hp]
      rfl
    · rw [low i (by omega), List.getElem?_append_left (by omega)]
      exact h.atk i h1 (by omega)
  · by_cases e : i = k + 1
    · subst e
      rw [up1_same]
      exact hg.sans S hEk
    · rw [low i (by omega)]
      exact (h.good i (by omega)).sans S (hE i (by omega))
  · by_cases e : i = k + 1
    · subst e
      rw [up1_same]
      exact hl.sans S (fun j h1 h2 => hEk j h1 (Nat.lt_of_lt_of_le h2 hg.o2))
    · rw [low i (by omega)]
      exact (h.lane i h1 (by omega)).sans S (fun j h1 h2 => hE i (by omega) j h1 (Nat.lt_of_lt_of_le h2 (h.good i (by omega)).o2))
  · by_cases e : i = k
    · subst e
      rw [low i (by omega), up1_same]
      exact hlo
    · rw [low i (by omega), low (i + 1) (by omega)]
      exact h.lohi i (by omega)
  · rcases hat with e2 | ⟨g, e2, hgw⟩
    · rw [e2] at e
      by_cases e3 : i = k + 1
      · subst e3
        rw [up1_same]
        have := hvb pb e
        omega
      · rw [low i (by omega)]
        exact h.vb pb e i (by omega)
    · rw [e2] at e
      cases e
      by_cases e3 : i = k + 1
      · subst e3
        rw [up1_same]
        have := hg.o3
        omega
      · rw [low i (by omega)]
        have := g3 i (by omega)
        omega
end
end Nd
end Go.Proofs.YtniicgbkeifnjaaGreatDoor
namespace Go.Proofs.YtniicgbkeifnjaaGreatDoor
open Go.ChangeShapes Go.WideShapes Go.ChangeAt Go.RowKit
set_option linter.unusedVariables false
set_option maxRecDepth 100000
namespace Nd
theorem infoEnds : (Tryz.prog.info? 150).map (fun i => (i.zero, i.size, i.bytes)) = some (some (.agg #[.pointer none, .pointer none]), 2, 16) := by kernel_rfl
theorem infoPort : (Tryz.prog.info? 113).map (fun i => (i.zero, i.size, i.bytes)) = some (some (.agg #[.pointer none, .int .i64 0, .slice none 0 0]), 3, 40) := by kernel_rfl
theorem Parts.first {W w1 : World} {n v : Nat} {ws : List Int} {st rm : Int} {bs : List Int} {q : Nat} (h : WMade W n ws q w1) :
    ∃ r ps, Parts (w1.alloc (.cells #[.pointer (some ⟨q, 0, none⟩), .int .i64 (v : Nat), .slice none 0 0] 113)) W.heap.size n (fun k => ws.getD k 0) st rm v bs 0 (.slice (some ⟨w1.heap.size, 0, none⟩) 1 1) r ps := by
  obtain ⟨hq, g, f, hg, hf, hw, hB⟩ := h
  have o := World.ownsRow_lit (base := W.heap.size) (e := 113) (size := 3) w1 #[.pointer (some ⟨q, 0, none⟩), .int .i64 (v : Nat), .slice none 0 0] 1 hB.size (by unfold maxLen; omega) (by simp)
  refine ⟨fun _ => ⟨q, g, f, 0, fun _ => 0, fun _ => 0, W.heap.size, W.heap.size, w1.heap.size⟩, [⟨q, v, .slice none 0 0⟩], rfl, o, rfl, fun i h1 h2 => by omega, fun i _ => ⟨Nat.le_refl _, hB.size, (fresh _ _).size, hw.below (fresh _ _), ⟨hq, hw.lp⟩, ⟨hg, hw.lx⟩, ⟨hf, hw.lf'⟩⟩, fun i h1 h2 => by omega, Nat.le_refl _, fun i h1 => by omega, fun pb e i _ => ?_⟩
  simp only [Value.ownBlock, Option.some.injEq] at e
  simp only
  omega
def zends (n : Nat) : Array Value := madeCells (Value.agg #[.pointer none, .pointer none]).cells (n * 2)
theorem zends_size (n : Nat) : (zends n).size = n * 2 := size_madeCells _ _
theorem make_ends (n : Nat) (hn : n ≤ 200) (w : World) : (Instr.makeSlice 111 (.int .i64 (n : Int)) (.int .i64 (n : Int))).run Tryz.prog w = .ok (.slice (some ⟨w.heap.size, 0, none⟩) n n) (w.alloc (.cells (zends n) 150)) := by
  obtain ⟨i, hi, hz0, hz1, hz2⟩ := info_parts infoEnds
  have hr := run_make (P := Tryz.prog) w 111 150 i _ Tryz.underlying111 hi hz0 .i64 .i64 n n (by omega) (Int.le_refl _) (by rw [hz2]; omega) (by omega)
  simp only [Int.toNat_natCast, hz1] at hr
  exact hr
theorem LGood.first {w : World} {L : Nat} {st rm : Int} {sq rq : Nat → Nat} : LGood (w.alloc (.cells (zends L) 150)) L 0 w.heap.size (w.alloc (.cells (zends L) 150)).heap.size w.heap.size st rm sq rq := by
  refine ⟨Nat.le_refl _, by simp, Nat.le_refl _, fun j hj => ?_, fun k hk => by omega, fun k hk => by omega, fun k hk => by omega, fun k hk => by omega, fun k k' hk => by omega⟩
  have hs : (zends L).size = L * 2 := zends_size L
  have hj2 : j < (zends L).size := by omega
  refine ⟨⟨(zends L)[j], ?_⟩, by simp⟩
  simp [hj2]
set_option maxHeartbeats 4000000 in
set_option maxRecDepth 100000 in
theorem ports_new {w : World} {p : PV} {es : List (Int × Int)} {ws : List Int} {rs : List (List Int)} {n v L : Nat} (h : PlN w p es ws rs) (hk : NewOk p es ws rs n v) (hL : p.lanes = (L : Int)) :
    Calls Tryz.prog 36 #[p.val, .int .i64 (v : Nat)] w fun e w' => ∃ x r ps, e = .returned x ∧ Below w.heap.size w w' ∧ Parts w' (w.heap.size + 1) L (fun k => ws.getD k 0) p.start p.room v (Plan.bes es v) (Plan.bes es v).length x r ps := by
  have HX : Hid (Bxd (w.alloc p.obj) w.heap.size p) := bxd_new w p
  have HW : Hid (Below w.heap.size w (w.alloc p.obj) ∧ (w.alloc p.obj).heap.size = w.heap.size + 1) := ⟨fresh _ _, by simp⟩
  have HP : Hid (PlN w p es ws rs) := h
  have hwn := h.pl.hw.1
  have hwl := hk.wlen
  have hL3 := hk.lanes
  have hrm := hk.room
  have hst := hk.start
  have hb5 := hk.bs5
  have HOk : Hid (Plan.wsOk ws = true) := hk.wok
  clear h hk
  have HCw : Hid (∀ u : World, Below w.heap.size w u → Calls Tryz.prog 91 #[.slice p.wa p.wn p.wc] u fun e w' => ∃ q, e = .returned (.pointer (some ⟨q, 0, none⟩)) ∧ WMade u p.wn ws q w') := fun u hu => wmake_any (HP.out.pl.hw.below hu) HOk.out
  have HCb : Hid (∀ u : World, Below w.heap.size w u → Calls Tryz.prog 92 #[p.val, .int .i64 (v : Nat)] u fun e w' => ∃ x, e = .returned x ∧ w'.ownsRow u.heap.size 3 1 x (Plan.bes es v).length (zcells (Plan.bes es v)) ∧ Below u.heap.size u w') := fun u hu => beside_raw (HP.out.pl.below hu) (v : Int)
  obtain ⟨nodes, lanes, room, queue, rounds, every, bag, start, ea', en, ec, wa, wn, wc, na, nn, nc⟩ := p
  simp only at hL hwn hwl hL3 hrm hst HCw
  obtain rfl : wn = L := by omega
  subst hL
  obtain ⟨bs, hbs⟩ : ∃ bs, Plan.bes es v = bs := ⟨_, rfl⟩
  obtain ⟨W, hWe⟩ : ∃ W, W = w.alloc (PV.obj ⟨nodes, (wn : Nat), room, queue, rounds, every, bag, start, ea', en, ec, wa, wn, wc, na, nn, nc⟩) := ⟨_, rfl⟩
  rw [← hWe] at HX HW
  have HWb : Hid (Below w.heap.size w W) := HW.out.1
  obtain ⟨x0, x1, x2, x3, x4, x5, x6, x7, x8, x9, x10⟩ := HX.out
  simp only at x0 x1 x2 x3 x4 x5 x6 x7 x8 x9 x10
  simp only [PV.val, PV.obj] at hWe HCb ⊢
  rw [hbs] at HCb hb5 ⊢
  clear hbs
  go_enter Tryz.func36, Tryz.ntmps36
  go_upto_region 1 with fail
  rw [← hWe]
  clear hWe
  go_wp2_with fail
  refine (HCw.out W HWb.out).mono ?_
  rintro e w1 ⟨q0, rfl, hq0⟩
  have HQ0 : Hid (WMade W wn ws q0 w1) := hq0
  clear hq0 x0 x1 x2 x3 x4 x5 x6 x7 x8 x9 x10
  go_upto_region 2 with fail
  obtain ⟨X0, hX0⟩ : ∃ X0, X0 = w1.alloc (.cells #[.pointer (some ⟨q0, 0, none⟩), .int .i64 (v : Nat), .slice none 0 0] 113) := ⟨_, rfl⟩
  have HBW : Hid (Below W.heap.size W X0) := by rw [hX0]; exact later HQ0.out.2.choose_spec.choose_spec.2.2.2 (fresh _ _)
  have HPa : Hid (∃ r ps, Parts X0 W.heap.size wn (fun k => ws.getD k 0) start room v bs 0 (.slice (some ⟨w1.heap.size, 0, none⟩) 1 1) r ps) := by rw [hX0]; exact Parts.first HQ0.out
  have HX0 := HX.out.below HBW.out
  have HBw0 : Hid (Below w.heap.size w X0) := later HWb.out HBW.out
  rw [← hX0]
  clear hX0
  have HXh : Hid _ := HX0
  clear HX0
  obtain ⟨x0, x1, x2, x3, x4, x5, x6, x7, x8, x9, x10⟩ := HXh.out
  simp only at x0 x1 x2 x3 x4 x5 x6 x7 x8 x9 x10
  go_wp2_with fail
  refine (HCb.out X0 HBw0.out).mono ?_
  rintro e w2 ⟨x, rfl, hox, hB2⟩
  obtain ⟨a2, c2, rfl, hz2, hnc2, hmc2, _, hg2⟩ := zr_of_owns hox
  have HB2 : Hid (Below X0.heap.size X0 w2) := hB2
  have HZ2 : Hid (Zr w2 a2 bs.length bs) := hz2
  have HG2 : Hid (∀ ad, a2 = some ad → X0.heap.size ≤ ad.block ∧ ad.block < w2.heap.size) := fun ad e => by
    rcases hg2 with ⟨h, _⟩ | ⟨g, h, h1, h2⟩
    · rw [h] at e; cases e
    · rw [h] at e; cases e; exact ⟨h1, h2⟩
  obtain ⟨K, hK⟩ : ∃ K, bs.length = K := ⟨_, rfl⟩
  rw [hK] at HZ2 hb5 ⊢
  have HK : Hid (bs.length = K) := hK
  clear hox hB2 hz2 hg2 hnc2 hmc2 hK x0 x1 x2 x3 x4 x5 x6 x7 x8 x9 x10
  go_wp2_with fail
  go_loopw [5, 20] (fun x j wr => ∃ k : Nat, k ≤ K ∧ j = .int .i64 k ∧ ∃ r ps, Parts wr W.heap.size wn (fun k => ws.getD k 0) start room v bs k x r ps ∧ Below W.heap.size W wr ∧ Zr wr a2 K bs ∧ (∀ pb, x.ownBlock = some pb → ∀ ad, a2 = some ad → pb ≠ ad.block) ∧ (∀ ad, a2 = some ad → ad.block < wr.heap.size)) (fun _ j _ => K - (intOf j).toNat)
  case atStart =>
    obtain ⟨r, ps, hp⟩ := HPa.out
    refine ⟨0, Nat.zero_le _, rfl, r, ps, hp.below HB2.out, later HBW.out HB2.out, HZ2.out, fun pb e ad e2 => ?_, fun ad e => (HG2.out ad e).2⟩
    have h1 := (HG2.out ad e2).1
    obtain ⟨g, cp, e3, hl⟩ := owns_pos hp.own (Nat.succ_pos _)
    cases e3
    simp only [Value.ownBlock, Option.some.injEq] at e
    omega
  case round =>
    obtain ⟨k, hk, rfl, r, ps, hpa, hBw, hzr, hvb, hlt⟩ := hrel
    have HPa1 : Hid (Parts wr W.heap.size wn (fun k => ws.getD k 0) start room v bs k u5 r ps) := hpa
    have HBw : Hid (Below W.heap.size W wr) := hBw
    have HZr : Hid (Zr wr a2 K bs) := hzr
    have HVb : Hid ((∀ pb, u5.ownBlock = some pb → ∀ ad, a2 = some ad → pb ≠ ad.block) ∧ ∀ ad, a2 = some ad → ad.block < wr.heap.size) := ⟨hvb, hlt⟩
    have HBw0 : Hid (Below w.heap.size w wr) := HWb.out.trans (HBw.out.mono HWb.out.size)
    have hXr := HX.out.below HBw.out
    have HXr : Hid _ := hXr
    clear hpa hBw hzr hvb hlt hXr
    by_cases hkn : k < K
    · have hkI : (k : Int) < (K : Int) := by omega
      obtain ⟨ab, ao, ha, hcy⟩ := HZr.out.at hkn
      subst ha
      obtain ⟨y, hy⟩ : ∃ y, bs.getD k 0 = y := ⟨_, rfl⟩
      have HY : Hid (bs.getD k 0 = y) := hy
      rw [hy] at hcy
      have hmk := make_ends wn (by omega) wr
      obtain ⟨x0, x1, x2, x3, x4, x5, x6, x7, x8, x9, x10⟩ := HXr.out
      simp only at x0 x1 x2 x3 x4 x5 x6 x7 x8 x9 x10
      obtain ⟨V, hV⟩ : ∃ V, V = wr.alloc (.cells (zends wn) 150) := ⟨_, rfl⟩
      obtain ⟨lo, hlo⟩ : ∃ lo, wr.heap.size = lo := ⟨_, rfl⟩
      have HLo : Hid (wr.heap.size = lo) := hlo
      have HVl : Hid (LGood V wn 0 lo V.heap.size lo start room (fun _ => 0) (fun _ => 0)) := by rw [hV, ← hlo]; exact LGood.first
      have HVb1 : Hid (Below wr.heap.size wr V) := by rw [hV]; exact fresh _ _
      have hw0 : 1 ≤ wn := by omega
      clear hy
      go_upto_region 6 with fail
      rw [← hV]
      clear hV hlo hmk hcy x0 x1 x2 x3 x4 x5 x6 x7 x8 x9 x10
      go_wp2_with fail
      obtain ⟨U, hU⟩ : ∃ U, U = wr := ⟨_, rfl⟩
      subst hU
      go_loopw [29] (fun j wi => ∃ l : Nat, l ≤ wn ∧ j = .int .i64 l ∧ ∃ sq rq, LGood wi wn l lo wi.heap.size lo start room sq rq ∧ Sans (fun j => j = lo) V wi) (fun j _ => wn - (intOf j).toNat)
      case atStart => exact ⟨0, Nat.zero_le _, rfl, _, _, HVl.out, Sans.refl _ _⟩
      case round =>
        obtain ⟨l, hl, rfl, sq, rq, hg, hs⟩ := hrel
        have HLg : Hid (LGood wr wn l lo wr.heap.size lo start room sq rq) := hg
        have HS : Hid (Sans (fun j => j = lo) V wr) := hs
        have HBu : Hid (Below U.heap.size U wr) := HVb1.out.trans (hs.below (B := U.heap.size) HVb1.out.size (fun j e => by have := HLo.out; omega))
        have HXi : Hid _ := HXr.out.below HBu.out
        clear hg hs
        by_cases hln : l < wn
        · have hlI : (l : Int) < (wn : Int) := by omega
          obtain ⟨x0, x1, x2, x3, x4, x5, x6, x7, x8, x9, x10⟩ := HXi.out
          simp only at x0 x1 x2 x3 x4 x5 x6 x7 x8 x9 x10
          have HNc : Hid (∀ u, Below wr.heap.size wr u → Calls Tryz.prog 93 #[.int .u64 start, .int .i64 room] u fun e u' => ∃ q, e = .returned (.pointer (some ⟨q, 0, none⟩)) ∧ wr.heap.size ≤ q ∧ q < u'.heap.size ∧ Cr.Snd u' q start (start + room) ∧ Below wr.heap.size wr u' ∧ u'.cell? ⟨w.heap.size, 9, none⟩ = some (.int .u16 start) ∧ u'.cell? ⟨w.heap.size, 3, none⟩ = some (.int .i64 room)) := fun u hu => by
            refine (Cr.new_good start room (by omega) hrm u).mono ?_
            rintro e u' ⟨q, rfl, hq, hs, hB⟩
            have hB2 := later hu hB
            have hX2 := HXi.out.below hB2
            exact ⟨q, rfl, by have := hu.size; omega, cell_lt hs.1, hs, hB2, hX2.c9, hX2.c3⟩
          obtain ⟨⟨y0, g0⟩, g0f⟩ := HLg.out.has (l * 2) (by omega)
          obtain ⟨⟨y1, g1⟩, g1f⟩ := HLg.out.has (l * 2 + 1) (by omega)
          have HNb : Hid (∀ u1 u, Below wr.heap.size wr u1 → Below u1.heap.size u1 u → Calls Tryz.prog 94 #[.int .u64 start, .int .i64 room] u fun e u' => ∃ q, e = .returned (.pointer (some ⟨q, 0, none⟩)) ∧ u1.heap.size ≤ q ∧ q < u'.heap.size ∧ Bf.Rcv u' q start room 0 ∧ Below u1.heap.size u1 u' ∧ (u'.cell? ⟨w.heap.size, 9, none⟩ = some (.int .u16 start) ∧ u'.cell? ⟨w.heap.size, 3, none⟩ = some (.int .i64 room)) ∧ (u'.cell? ⟨lo, l * 2, none⟩ = some y0 ∧ u'.frozen? ⟨lo, l * 2, none⟩ = false) ∧ u'.cell? ⟨lo, l * 2 + 1, none⟩ = some y1 ∧ u'.frozen? ⟨lo, l * 2 + 1, none⟩ = false) := fun u1 u h1 hu => by
            refine (Bf.new_good start room (by omega) hrm u).mono ?_
            rintro e u' ⟨q, rfl, hq, hs, hB⟩
            have hB2 := later hu hB
            have hX2 := HXi.out.below (later h1 hB2)
            have hB3 := later h1 hB2
            have hll : lo < wr.heap.size := HLg.out.bmid
            exact ⟨q, rfl, by have := hu.size; omega, cell_lt hs.1, hs, hB2, ⟨hX2.c9, hX2.c3⟩, ⟨(hB3.cell (p := ⟨lo, l * 2, none⟩) hll).trans g0, (hB3.frozen (p := ⟨lo, l * 2, none⟩) hll).trans g0f⟩, (hB3.cell (p := ⟨lo, l * 2 + 1, none⟩) hll).trans g1, (hB3.frozen (p := ⟨lo, l * 2 + 1, none⟩) hll).trans g1f⟩
          have HKp : Hid (∀ (u : World) (p q : Value), (u.cell? ⟨w.heap.size, 9, none⟩ = some (.int .u16 start) ∧ u.cell? ⟨w.heap.size, 3, none⟩ = some (.int .i64 room)) → ((u.setCell ⟨lo, l * 2, none⟩ p).setCell ⟨lo, l * 2 + 1, none⟩ q).cell? ⟨w.heap.size, 9, none⟩ = some (.int .u16 start) ∧ ((u.setCell ⟨lo, l * 2, none⟩ p).setCell ⟨lo, l * 2 + 1, none⟩ q).cell? ⟨w.heap.size, 3, none⟩ = some (.int .i64 room)) := fun u p q hu => by
            have hne : ¬ w.heap.size = lo := by have := HLo.out; have := HBw.out.size; have := HW.out.2; omega
            have S0 : Sans (fun j => j = lo) u (u.setCell ⟨lo, l * 2, none⟩ p) := Sans.of_set _ _ _ rfl
            have S1 : Sans (fun j => j = lo) u ((u.setCell ⟨lo, l * 2, none⟩ p).setCell ⟨lo, l * 2 + 1, none⟩ q) := S0.then (Sans.of_set _ _ _ rfl)
            have hlt : w.heap.size < u.heap.size := cell_lt hu.1
            exact ⟨(S1.cell (p := ⟨w.heap.size, 9, none⟩) hlt hne).trans hu.1, (S1.cell (p := ⟨w.heap.size, 3, none⟩) hlt hne).trans hu.2⟩
          have wst : IntKind.u64.wrap start = start := by rw [IntKind.wrap_u64]; omega
          clear x0 x1 x2 x4 x5 x6 x7 x8 x10 g0 g1 g0f g1f
          go_wp2_with fail
          go_region_held3 (fun w' => w'.cell? ⟨w.heap.size, 9, none⟩ = some (.int .u16 start) ∧ w'.cell? ⟨w.heap.size, 3, none⟩ = some (.int .i64 room)) (first | exact CK2.out | exact CK1.out | exact HKp.out _ _ _ CK2.out | go_keep)
            (first
              | (go_at_call 93; refine (HNc.out _ (by first | exact (Below.refl _ _).drew | exact K.drewN_below _ 1 | exact Below.refl _ _)).mono ?_; rintro e u1 ⟨q1, rfl, hq1⟩; have HQ1 : Hid _ := hq1; have CK1 : Hid (u1.cell? ⟨w.heap.size, 9, none⟩ = some (.int .u16 start) ∧ u1.cell? ⟨w.heap.size, 3, none⟩ = some (.int .i64 room)) := hq1.2.2.2.2; clear hq1)
              | (go_at_call 94; refine (HNb.out u1 _ HQ1.out.2.2.2.1 (by first | exact (Below.refl _ _).drew | exact K.drewN_below _ 1 | exact Below.refl _ _)).mono ?_; rintro e u2 ⟨q2, rfl, hq2⟩; have HQ2 : Hid _ := hq2; have CK2 : Hid (u2.cell? ⟨w.heap.size, 9, none⟩ = some (.int .u16 start) ∧ u2.cell? ⟨w.heap.size, 3, none⟩ = some (.int .i64 room)) := hq2.2.2.2.2.1; obtain ⟨⟨z0, z0f⟩, z1, z1f⟩ := hq2.2.2.2.2.2; clear hq2))
          have HM := HLg.out.more hln (W := u2) (a := q1) (b := q2) (later HQ1.out.2.2.2.1 HQ2.out.2.2.2.1) HQ1.out.1 (by have := HQ1.out.1; have := HQ1.out.2.1; have := HQ2.out.1; omega) (by have := HQ1.out.2.1; have := HQ2.out.1; omega) (HQ1.out.2.2.1.below HQ2.out.2.2.2.1) HQ2.out.2.2.1 (by have := HQ1.out.2.1; have := HQ2.out.1; have := HQ2.out.2.1; omega) HQ2.out.2.1
          have HS2 : Hid (Sans (fun j => j = lo) V ((u2.setCell ⟨lo, l * 2, none⟩ (.pointer (some ⟨q1, 0, none⟩))).setCell ⟨lo, l * 2 + 1, none⟩ (.pointer (some ⟨q2, 0, none⟩)))) := (HS.out.then (Sans.of_below (later HQ1.out.2.2.2.1 HQ2.out.2.2.2.1))).then HM.2
          have HM2 : Hid (LGood ((u2.setCell ⟨lo, l * 2, none⟩ (.pointer (some ⟨q1, 0, none⟩))).setCell ⟨lo, l * 2 + 1, none⟩ (.pointer (some ⟨q2, 0, none⟩))) wn (l + 1) lo ((u2.setCell ⟨lo, l * 2, none⟩ (.pointer (some ⟨q1, 0, none⟩))).setCell ⟨lo, l * 2 + 1, none⟩ (.pointer (some ⟨q2, 0, none⟩))).heap.size lo start room (up1 sq l q1) (up1 rq l q2)) := HM.1.wider HM.2.size (Nat.le_refl _)
          clear HM HNc HNb HKp HQ1 HQ2 CK1 CK2 z0 z0f z1 z1f x3 x9
          go_wp2_with fail
          go_roundw
          case rel =>
            first | exact ⟨l + 1, by omega, by go_num, _, _, HM2.out, HS2.out⟩ | ((repeat apply Exists.intro); exact ⟨⟨l + 1, by omega, by go_num, _, _, HM2.out, HS2.out⟩, rfl⟩)
          case measure => simp [intOf]; omega
        · obtain rfl : l = wn := by omega
          obtain ⟨pb, cp, rfl, hpb⟩ := owns_pos HPa1.out.own (Nat.succ_pos _)
          have HPb : Hid (pb < U.heap.size) := hpb
          obtain ⟨x0, x1, x2, x3, x4, x5, x6, x7, x8, x9, x10⟩ := HXi.out
          simp only at x0 x1 x2 x3 x4 x5 x6 x7 x8 x9 x10
          have HBwi : Hid (Below w.heap.size w wr) := later HBw0.out HBu.out
          clear hpb
          go_wp2_with fail
          refine (HCw.out wr HBwi.out).mono ?_
          rintro e w5 ⟨q5, rfl, hq5⟩
          have HQ5 : Hid (WMade wr l ws q5 w5) := hq5
          clear hq5 x0 x1 x2 x3 x4 x5 x6 x7 x8 x9 x10
          have HB5 : Hid (Below wr.heap.size wr w5) := HQ5.out.2.choose_spec.choose_spec.2.2.2
          have HB6 : Hid (Below U.heap.size U (w5.alloc (.cells #[.pointer (some ⟨q5, 0, none⟩), .int .i64 y, .slice (some ⟨lo, 0, none⟩) l l] 113))) := later (later HBu.out HB5.out) (fresh _ _)
          have HN1 : Hid ((w5.alloc (.cells #[.pointer (some ⟨q5, 0, none⟩), .int .i64 y, .slice (some ⟨lo, 0, none⟩) l l] 113)).ownsRow W.heap.size 113 3 (.slice (some ⟨pb, 0, none⟩) (k + 1) cp) (k + 1) (prow ps)) := owns_below HPa1.out.own HB6.out
          have HN2 : Hid (∀ (j : Nat) (z : Value), [Value.pointer (some ⟨q5, 0, none⟩), .int .i64 y, .slice (some ⟨lo, 0, none⟩) l l][j]? = some z → (w5.alloc (.cells #[.pointer (some ⟨q5, 0, none⟩), .int .i64 y, .slice (some ⟨lo, 0, none⟩) l l] 113)).cell? ((⟨w5.heap.size, 0, none⟩ : Addr).add j) = some z) := by
            intro j z hz
            rw [add_lit]
            match j with
            | 0 => simpa using hz
            | 1 => simpa using hz
            | 2 => simpa using hz
            | (j + 3) => simp at hz
          have HN3 : Hid (∀ z ∈ [Value.pointer (some ⟨q5, 0, none⟩), .int .i64 y, .slice (some ⟨lo, 0, none⟩) l l], z.oneCell' = true) := by
            intro z hz
            simp only [List.mem_cons, List.not_mem_nil, or_false] at hz
            rcases hz with rfl | rfl | rfl <;> rfl
          have HWs : Hid (W.heap.size ≤ (w5.alloc (.cells #[.pointer (some ⟨q5, 0, none⟩), .int .i64 y, .slice (some ⟨lo, 0, none⟩) l l] 113)).heap.size) := Nat.le_trans HBw.out.size HB6.out.size
          go_wp2_with (at_builtin; refine wpList_append_v rfl (.tmp 49) (.tmp 56) 95 113 rfl _ 3 40 Tryz.underlying95 infoPort rfl (by decide) W.heap.size (.slice (some ⟨pb, 0, none⟩) (k + 1) cp) (k + 1) (prow ps) rfl HN1.out HWs.out (some ⟨w5.heap.size, 0, none⟩) 1 1 [.pointer (some ⟨q5, 0, none⟩), .int .i64 y, .slice (some ⟨lo, 0, none⟩) l l] rfl rfl (fun e => by cases e) (.inr ⟨_, rfl, HN2.out⟩) HN3.out (by unfold maxLen; omega) (by omega) ?_; intro v' w7 hown hB7 hg hat; obtain ⟨g7, c7, rfl, hgl⟩ := owns_pos hown (Nat.succ_pos _); have HV7 : Hid _ := And.intro hown (And.intro hB7 (And.intro hg (And.intro hat hgl))); clear hown hB7 hg hat hgl)
          obtain ⟨hown, hB7, hg, hat, hgl⟩ := HV7.out
          obtain ⟨bq, g, f, bg, bf, hw, _⟩ := HQ5.out
          have S : Sans (fun j => (Value.slice (some ⟨pb, 0, none⟩) (k + 1) cp).ownBlock = some j) (w5.alloc (.cells #[.pointer (some ⟨q5, 0, none⟩), .int .i64 y, .slice (some ⟨lo, 0, none⟩) l l] 113)) w7 := Sans.of_grown hg (fun _ e => e)
          have hPm := (HPa1.out.below HB6.out).more (rk := ⟨q5, g, f, lo, sq, rq, lo, wr.heap.size, w5.heap.size⟩) (p := ⟨q5, y, .slice (some ⟨lo, 0, none⟩) l l⟩) ⟨Nat.le_of_lt HLg.out.bmid, HB5.out.size, (fresh _ _).size, hw.below (fresh _ _), ⟨bq, hw.lp⟩, ⟨bg, hw.lx⟩, ⟨bf, hw.lf'⟩⟩ (HLg.out.below (later HB5.out (fresh _ _))) (by have h1 := (HPa1.out.good k (Nat.le_refl _)).o3; have := HLo.out; show _ ≤ lo; omega) (fun z e => by simp only [Value.ownBlock, Option.some.injEq] at e; have := HPb.out; have := HLo.out; show z < lo; omega) (by rw [HY.out]) hown S (hat.imp id (fun e => ⟨_, e, Nat.le_refl _⟩))
          have had := HVb.out.2 _ rfl
          simp only at had
          refine ⟨⟨k + 1, by omega, by go_num, _, _, hPm, (later HBw.out HB6.out).trans hB7, (HZr.out.below HB6.out).sans S (fun ad e e2 => HVb.out.1 _ e2 ad e rfl), fun z e ad e2 => ?_, fun ad e => ?_⟩, by simp [intOf]; omega⟩
          · rcases hat with h | h
            · rw [h] at e
              exact HVb.out.1 z e ad e2
            · rw [h] at e
              cases e
              cases e2
              have := HB6.out.size
              simp only
              omega
          · cases e
            have := HB6.out.size
            have := S.size
            simp only
            omega
    · obtain rfl : k = K := by omega
      have HPe : Hid (Parts wr (w.heap.size + 1) wn (fun k => ws.getD k 0) start room v bs bs.length u5 r ps) := by
        have := HPa1.out
        rw [HW.out.2] at this
        rw [HK.out]
        exact this
      go_wp2_with fail
      go_ret
      exact ⟨_, _, _, rfl, HBw0.out, HPe.out⟩
end Nd
end Go.Proofs.YtniicgbkeifnjaaGreatDoor
