/-
  A plan in a block of the call's own, that may be written: what a store of one of its rows leaves. Conditions: none.
-/
import Derived.Test.YtphaaolnmbadcaaPlanMk
namespace Go.Proofs.Ytphaaolnmbadcaa
open Go.ChangeShapes Go.WideShapes Go.ChangeAt Go.RowKit
set_option linter.unusedVariables false

/-- a plan lies in block b, and may be written -/
structure Bx (w : World) (b : Nat) (p : PV) : Prop where
  x : Bxd w b p
  f : ∀ k, w.frozen? ⟨b, k, none⟩ = false
theorem bx_new (w : World) (p : PV) : Bx (w.alloc p.obj) w.heap.size p := by
  refine ⟨bxd_new w p, fun k => ?_⟩
  unfold PV.obj
  simp
theorem Bx.sans {F : Nat → Prop} {w w' : World} {b : Nat} {p : PV} (h : Bx w b p) (k : Sans F w w') (hb : ¬ F b) : Bx w' b p := by
  have hl : b < w.heap.size := cell_lt h.x.c0
  have e : ∀ o, w'.cell? ⟨b, o, none⟩ = w.cell? ⟨b, o, none⟩ := fun o => k.cell (p := ⟨b, o, none⟩) hl hb
  exact ⟨⟨(e _).trans h.x.c0, (e _).trans h.x.c1, (e _).trans h.x.c2, (e _).trans h.x.c3, (e _).trans h.x.c4, (e _).trans h.x.c5, (e _).trans h.x.c6, (e _).trans h.x.c7, (e _).trans h.x.c8, (e _).trans h.x.c9, (e _).trans h.x.c10⟩, fun o => (k.frozen (p := ⟨b, o, none⟩) hl hb).trans (h.f o)⟩
theorem Bx.below {w w' : World} {b B : Nat} {p : PV} (h : Bx w b p) (k : Below B w w') (hb : b < B) : Bx w' b p := by
  have e : ∀ o, w'.cell? ⟨b, o, none⟩ = w.cell? ⟨b, o, none⟩ := fun o => k.cell (p := ⟨b, o, none⟩) hb
  exact ⟨⟨(e _).trans h.x.c0, (e _).trans h.x.c1, (e _).trans h.x.c2, (e _).trans h.x.c3, (e _).trans h.x.c4, (e _).trans h.x.c5, (e _).trans h.x.c6, (e _).trans h.x.c7, (e _).trans h.x.c8, (e _).trans h.x.c9, (e _).trans h.x.c10⟩, fun o => (k.frozen (p := ⟨b, o, none⟩) hb).trans (h.f o)⟩
theorem Bx.setW {w : World} {b : Nat} {p : PV} (h : Bx w b p) (a : Option Addr) (n c : Nat) : Bx (w.setCell ⟨b, 8, none⟩ (.slice a n c)) b { p with wa := a, wn := n, wc := c } := by
  refine ⟨⟨cell_set h.x.c0 (by omega), cell_set h.x.c1 (by omega), cell_set h.x.c2 (by omega), cell_set h.x.c3 (by omega), cell_set h.x.c4 (by omega), cell_set h.x.c5 (by omega), cell_set h.x.c6 (by omega), cell_set h.x.c7 (by omega), World.cell?_setCell_same _ _ _ h.x.c8, cell_set h.x.c9 (by omega), cell_set h.x.c10 (by omega)⟩, fun k => by rw [World.frozen?_setCell]; exact h.f k⟩
theorem Bx.setE {w : World} {b : Nat} {p : PV} (h : Bx w b p) (a : Option Addr) (n c : Nat) : Bx (w.setCell ⟨b, 1, none⟩ (.slice a n c)) b { p with ea := a, en := n, ec := c } := by
  refine ⟨⟨cell_set h.x.c0 (by omega), World.cell?_setCell_same _ _ _ h.x.c1, cell_set h.x.c2 (by omega), cell_set h.x.c3 (by omega), cell_set h.x.c4 (by omega), cell_set h.x.c5 (by omega), cell_set h.x.c6 (by omega), cell_set h.x.c7 (by omega), cell_set h.x.c8 (by omega), cell_set h.x.c9 (by omega), cell_set h.x.c10 (by omega)⟩, fun k => by rw [World.frozen?_setCell]; exact h.f k⟩
theorem Bx.setN {w : World} {b : Nat} {p : PV} (h : Bx w b p) (a : Option Addr) (n c : Nat) : Bx (w.setCell ⟨b, 10, none⟩ (.slice a n c)) b { p with na := a, nn := n, nc := c } := by
  refine ⟨⟨cell_set h.x.c0 (by omega), cell_set h.x.c1 (by omega), cell_set h.x.c2 (by omega), cell_set h.x.c3 (by omega), cell_set h.x.c4 (by omega), cell_set h.x.c5 (by omega), cell_set h.x.c6 (by omega), cell_set h.x.c7 (by omega), cell_set h.x.c8 (by omega), cell_set h.x.c9 (by omega), World.cell?_setCell_same _ _ _ h.x.c10⟩, fun k => by rw [World.frozen?_setCell]; exact h.f k⟩
theorem owns_sans {w w' : World} {F : Nat → Prop} {base n size : Nat} {e : TypeId} {v : Value} {xs : List Value} (h : w.ownsRow base e size v n xs) (k : Sans F w w') (hF : ∀ j, base ≤ j → ¬ F j) : w'.ownsRow base e size v n xs := by
  refine ⟨h.1, ?_⟩
  rcases h.2 with h2 | ⟨g, cp, cur, e, hb, hg, r⟩
  · exact .inl h2
  · refine .inr ⟨g, cp, cur, e, hb, ?_, r⟩
    have hlt : g < w.heap.size := by
      rcases Nat.lt_or_ge g w.heap.size with h' | h'
      · exact h'
      · simp [Array.getElem?_eq_none h'] at hg
    exact (k.block g hlt (hF g hb)).trans hg
/-- behind an append to a row above B, and a store into block b -/
theorem Sans.grew {w0 w1 w2 : World} {b B : Nat} (h : Sans (fun k => k = b) w0 w1) (hB : w0.heap.size ≤ B) (hB1 : B ≤ w1.heap.size) (k : Below B w1 w2) : Sans (fun k => k = b) w0 w2 :=
  ⟨k.os.trans h.os, k.tape.trans h.tape, k.output.trans h.output, Nat.le_trans h.size k.size, fun j hj hn => (k.block j (by omega)).trans (h.block j hj hn)⟩
theorem Sans.stored {w0 w1 : World} {b : Nat} (h : Sans (fun k => k = b) w0 w1) (j : Nat) (v : Value) : Sans (fun k => k = b) w0 (w1.setCell ⟨b, j, none⟩ v) :=
  h.then (Sans.of_set w1 ⟨b, j, none⟩ v rfl)
/-- a row of rows, as cells -/
def Rv (N : Nat) (x : Value) : Prop := ∃ ra rc, x = .slice ra N rc ∧ N ≤ rc ∧ rc ≤ maxLen ∧ (ra = none → rc = 0)
theorem lr_of_owns {w : World} {base : Nat} {e : TypeId} {v : Value} {k N : Nat} {vs : List Value} (hk : vs.length = k) (hN : N ≤ maxLen) (h : w.ownsRow base e 1 v k vs) (hv : ∀ x ∈ vs, Rv N x) : ∃ a cap, v = .slice a k cap ∧ Lr w a k (List.replicate k N) ∧ k ≤ cap ∧ cap ≤ maxLen ∧ (a = none → cap = 0) := by
  rcases h.2 with ⟨hv', h0⟩ | ⟨g, cap, cur, hv', hb, hg, hnc, hcm, hcs, htake⟩
  · subst hv'
    subst h0
    exact ⟨none, 0, rfl, Lr.nil, Nat.le_refl _, Nat.zero_le _, fun _ => rfl⟩
  · subst hv'
    have hlt : g < w.heap.size := by
      rcases Nat.lt_or_ge g w.heap.size with h' | h'
      · exact h'
      · simp [Array.getElem?_eq_none h'] at hg
    refine ⟨some ⟨g, 0, none⟩, cap, rfl, ⟨by simp, by omega, .inr ⟨g, 0, rfl, hlt, fun i hi => ?_⟩⟩, hnc, hcm, (fun e => by cases e)⟩
    have hc := h.cellAt i (by omega)
    rw [List.getElem?_eq_getElem (by omega)] at hc
    obtain ⟨ra, rc, e, r⟩ := hv _ (List.getElem_mem (show i < vs.length by omega))
    rw [e] at hc
    have hg : (List.replicate k N).getD i 0 = N := by simp [List.getD_eq_getElem?_getD, hi]
    rw [hg, Nat.zero_add]
    exact ⟨ra, rc, hc, r⟩
theorem rv_one {N : Nat} {vs : List Value} (h : ∀ x ∈ vs, Rv N x) : ∀ u ∈ vs, u.oneCell' = true := by
  intro u hu
  obtain ⟨ra, rc, rfl, _⟩ := h u hu
  rfl
/-- the eleven cells of a plan, stored one by one -/
def lay11 (w : World) (R : Nat) (p : PV) : World := (((((((((((w.setCell ⟨R, 0, none⟩ (.int .i64 p.nodes)).setCell ⟨R, 1, none⟩ (.slice p.ea p.en p.ec)).setCell ⟨R, 2, none⟩ (.int .i64 p.lanes)).setCell ⟨R, 3, none⟩ (.int .i64 p.room)).setCell ⟨R, 4, none⟩ (.int .i64 p.queue)).setCell ⟨R, 5, none⟩ (.int .i64 p.rounds)).setCell ⟨R, 6, none⟩ (.int .i64 p.every)).setCell ⟨R, 7, none⟩ (.int .i64 p.bag)).setCell ⟨R, 8, none⟩ (.slice p.wa p.wn p.wc)).setCell ⟨R, 9, none⟩ (.int .u16 p.start)).setCell ⟨R, 10, none⟩ (.slice p.na p.nn p.nc))
theorem lay11_bxd {w : World} {R : Nat} {q : PV} (h : Bx w R q) (p : PV) : Bxd (lay11 w R p) R p :=
  ⟨(cell_set (cell_set (cell_set (cell_set (cell_set (cell_set (cell_set (cell_set (cell_set (cell_set (World.cell?_setCell_same _ _ _ h.x.c0) (by omega)) (by omega)) (by omega)) (by omega)) (by omega)) (by omega)) (by omega)) (by omega)) (by omega)) (by omega)), (cell_set (cell_set (cell_set (cell_set (cell_set (cell_set (cell_set (cell_set (cell_set (World.cell?_setCell_same _ _ _ (cell_set h.x.c1 (by omega))) (by omega)) (by omega)) (by omega)) (by omega)) (by omega)) (by omega)) (by omega)) (by omega)) (by omega)), (cell_set (cell_set (cell_set (cell_set (cell_set (cell_set (cell_set (cell_set (World.cell?_setCell_same _ _ _ (cell_set (cell_set h.x.c2 (by omega)) (by omega))) (by omega)) (by omega)) (by omega)) (by omega)) (by omega)) (by omega)) (by omega)) (by omega)), (cell_set (cell_set (cell_set (cell_set (cell_set (cell_set (cell_set (World.cell?_setCell_same _ _ _ (cell_set (cell_set (cell_set h.x.c3 (by omega)) (by omega)) (by omega))) (by omega)) (by omega)) (by omega)) (by omega)) (by omega)) (by omega)) (by omega)), (cell_set (cell_set (cell_set (cell_set (cell_set (cell_set (World.cell?_setCell_same _ _ _ (cell_set (cell_set (cell_set (cell_set h.x.c4 (by omega)) (by omega)) (by omega)) (by omega))) (by omega)) (by omega)) (by omega)) (by omega)) (by omega)) (by omega)), (cell_set (cell_set (cell_set (cell_set (cell_set (World.cell?_setCell_same _ _ _ (cell_set (cell_set (cell_set (cell_set (cell_set h.x.c5 (by omega)) (by omega)) (by omega)) (by omega)) (by omega))) (by omega)) (by omega)) (by omega)) (by omega)) (by omega)), (cell_set (cell_set (cell_set (cell_set (World.cell?_setCell_same _ _ _ (cell_set (cell_set (cell_set (cell_set (cell_set (cell_set h.x.c6 (by omega)) (by omega)) (by omega)) (by omega)) (by omega)) (by omega))) (by omega)) (by omega)) (by omega)) (by omega)), (cell_set (cell_set (cell_set (World.cell?_setCell_same _ _ _ (cell_set (cell_set (cell_set (cell_set (cell_set (cell_set (cell_set h.x.c7 (by omega)) (by omega)) (by omega)) (by omega)) (by omega)) (by omega)) (by omega))) (by omega)) (by omega)) (by omega)), (cell_set (cell_set (World.cell?_setCell_same _ _ _ (cell_set (cell_set (cell_set (cell_set (cell_set (cell_set (cell_set (cell_set h.x.c8 (by omega)) (by omega)) (by omega)) (by omega)) (by omega)) (by omega)) (by omega)) (by omega))) (by omega)) (by omega)), (cell_set (World.cell?_setCell_same _ _ _ (cell_set (cell_set (cell_set (cell_set (cell_set (cell_set (cell_set (cell_set (cell_set h.x.c9 (by omega)) (by omega)) (by omega)) (by omega)) (by omega)) (by omega)) (by omega)) (by omega)) (by omega))) (by omega)), (World.cell?_setCell_same _ _ _ (cell_set (cell_set (cell_set (cell_set (cell_set (cell_set (cell_set (cell_set (cell_set (cell_set h.x.c10 (by omega)) (by omega)) (by omega)) (by omega)) (by omega)) (by omega)) (by omega)) (by omega)) (by omega)) (by omega)))⟩
theorem lay11_sans (w : World) (R : Nat) (p : PV) : Sans (fun k => k = R) w (lay11 w R p) := by
  exact ((((((((((((Sans.refl (fun k => k = R) w).stored 0 _).stored 1 _).stored 2 _).stored 3 _).stored 4 _).stored 5 _).stored 6 _).stored 7 _).stored 8 _).stored 9 _).stored 10 _)
end Go.Proofs.Ytphaaolnmbadcaa
