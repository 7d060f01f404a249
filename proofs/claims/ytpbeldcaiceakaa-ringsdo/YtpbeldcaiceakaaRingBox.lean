/-
  A call (package shunterlaw08's Op) in its box of nine cells: stored, and read again. Conditions: none.
-/
import Derived.Test.YtpbeldcaiceakaaRingOps
namespace Go.Proofs.Ytpbeldcaiceakaa
open Go.ChangeShapes Go.WideShapes Go.ChangeAt Go.RowKit
set_option linter.unusedVariables false

/-- nine cells that may be written -/
structure Nine (w : World) (b : Nat) : Prop where
  a0 : ∃ v, w.cell? ⟨b, 0, none⟩ = some v
  a1 : ∃ v, w.cell? ⟨b, 1, none⟩ = some v
  a2 : ∃ v, w.cell? ⟨b, 2, none⟩ = some v
  a3 : ∃ v, w.cell? ⟨b, 3, none⟩ = some v
  a4 : ∃ v, w.cell? ⟨b, 4, none⟩ = some v
  a5 : ∃ v, w.cell? ⟨b, 5, none⟩ = some v
  a6 : ∃ v, w.cell? ⟨b, 6, none⟩ = some v
  a7 : ∃ v, w.cell? ⟨b, 7, none⟩ = some v
  a8 : ∃ v, w.cell? ⟨b, 8, none⟩ = some v
  f0 : w.frozen? ⟨b, 0, none⟩ = false
  f1 : w.frozen? ⟨b, 1, none⟩ = false
  f2 : w.frozen? ⟨b, 2, none⟩ = false
  f3 : w.frozen? ⟨b, 3, none⟩ = false
  f4 : w.frozen? ⟨b, 4, none⟩ = false
  f5 : w.frozen? ⟨b, 5, none⟩ = false
  f6 : w.frozen? ⟨b, 6, none⟩ = false
  f7 : w.frozen? ⟨b, 7, none⟩ = false
  f8 : w.frozen? ⟨b, 8, none⟩ = false
theorem Nine.lt {w : World} {b : Nat} (h : Nine w b) : b < w.heap.size := by
  obtain ⟨v, h⟩ := h.a0
  exact cell_lt h
theorem Nine.sans {F : Nat → Prop} {w w' : World} {b : Nat} (h : Nine w b) (k : Sans F w w') (hn : ¬ F b) : Nine w' b := by
  have hb := h.lt
  have ec : ∀ j, w'.cell? ⟨b, j, none⟩ = w.cell? ⟨b, j, none⟩ := fun j => k.cell (p := ⟨b, j, none⟩) hb hn
  have ef : ∀ j, w'.frozen? ⟨b, j, none⟩ = w.frozen? ⟨b, j, none⟩ := fun j => k.frozen (p := ⟨b, j, none⟩) hb hn
  exact ⟨by rw [ec]; exact h.a0, by rw [ec]; exact h.a1, by rw [ec]; exact h.a2, by rw [ec]; exact h.a3, by rw [ec]; exact h.a4, by rw [ec]; exact h.a5, by rw [ec]; exact h.a6, by rw [ec]; exact h.a7, by rw [ec]; exact h.a8, by rw [ef]; exact h.f0, by rw [ef]; exact h.f1, by rw [ef]; exact h.f2, by rw [ef]; exact h.f3, by rw [ef]; exact h.f4, by rw [ef]; exact h.f5, by rw [ef]; exact h.f6, by rw [ef]; exact h.f7, by rw [ef]; exact h.f8⟩
theorem Nine.below {w w' : World} {b : Nat} (h : Nine w b) (k : Below w.heap.size w w') : Nine w' b := h.sans (F := fun _ => False) (Sans.of_below k) (fun e => e)
theorem Nine.new (w : World) (c0 c1 c2 c3 c4 c5 c6 c7 c8 : Value) (t : TypeId) : Nine (w.alloc (.cells #[c0, c1, c2, c3, c4, c5, c6, c7, c8] t)) w.heap.size :=
  ⟨⟨c0, by simp⟩, ⟨c1, by simp⟩, ⟨c2, by simp⟩, ⟨c3, by simp⟩, ⟨c4, by simp⟩, ⟨c5, by simp⟩, ⟨c6, by simp⟩, ⟨c7, by simp⟩, ⟨c8, by simp⟩, by simp, by simp, by simp, by simp, by simp, by simp, by simp, by simp, by simp⟩
/-- a call's cells, from the box's beginning on -/
def OpIn (w : World) (b : Nat) (v : OpV) : Prop :=
  w.cell? ⟨b, 0, none⟩ = some (.int .u8 v.k) ∧ w.cell? ⟨b, 1, none⟩ = some (.int .i64 v.i) ∧ w.cell? ⟨b, 2, none⟩ = some (.int .i64 v.o) ∧ w.cell? ⟨b, 3, none⟩ = some (.int .i64 v.l) ∧ w.cell? ⟨b, 4, none⟩ = some (.bool v.nr) ∧ PkAt w b 5 v.x
theorem OpIn.sans {F : Nat → Prop} {w w' : World} {b : Nat} {v : OpV} (h : OpIn w b v) (k : Sans F w w') (hn : ¬ F b) : OpIn w' b v := by
  have hb : b < w.heap.size := cell_lt h.1
  have e : ∀ o, w'.cell? ⟨b, o, none⟩ = w.cell? ⟨b, o, none⟩ := fun o => k.cell (p := ⟨b, o, none⟩) hb hn
  obtain ⟨h1, h2, h3, h4, h5, h6⟩ := h
  exact ⟨(e _).trans h1, (e _).trans h2, (e _).trans h3, (e _).trans h4, (e _).trans h5, h6.sans k hn⟩
theorem OpIn.below {w w' : World} {b : Nat} {v : OpV} (h : OpIn w b v) (k : Below w.heap.size w w') : OpIn w' b v := h.sans (F := fun _ => False) (Sans.of_below k) (fun e => e)
theorem OpIn.new (w : World) (v : OpV) : OpIn (w.alloc (.cells #[.int .u8 v.k, .int .i64 v.i, .int .i64 v.o, .int .i64 v.l, .bool v.nr, .int .i64 v.x.s, .int .i64 v.x.d, .int .i64 v.x.l, .int .u32 v.x.b] 35)) w.heap.size v :=
  ⟨by simp, by simp, by simp, by simp, by simp, by simp, by simp, by simp, by simp⟩
def lay9 (w : World) (b : Nat) (v : OpV) : World := (((((((((w.setCell ⟨b, 0, none⟩ (.int .u8 v.k)).setCell ⟨b, 1, none⟩ (.int .i64 v.i)).setCell ⟨b, 2, none⟩ (.int .i64 v.o)).setCell ⟨b, 3, none⟩ (.int .i64 v.l)).setCell ⟨b, 4, none⟩ (.bool v.nr)).setCell ⟨b, 5, none⟩ (.int .i64 v.x.s)).setCell ⟨b, 6, none⟩ (.int .i64 v.x.d)).setCell ⟨b, 7, none⟩ (.int .i64 v.x.l)).setCell ⟨b, 8, none⟩ (.int .u32 v.x.b))
theorem lay9_sans (w : World) (b : Nat) (v : OpV) : Sans (fun j => j = b) w (lay9 w b v) :=
  ((((((((Sans.of_set (F := fun j => j = b) w ⟨b, 0, none⟩ _ rfl).then (Sans.of_set _ ⟨b, 1, none⟩ _ rfl)).then (Sans.of_set _ ⟨b, 2, none⟩ _ rfl)).then (Sans.of_set _ ⟨b, 3, none⟩ _ rfl)).then (Sans.of_set _ ⟨b, 4, none⟩ _ rfl)).then (Sans.of_set _ ⟨b, 5, none⟩ _ rfl)).then (Sans.of_set _ ⟨b, 6, none⟩ _ rfl)).then (Sans.of_set _ ⟨b, 7, none⟩ _ rfl)).then (Sans.of_set _ ⟨b, 8, none⟩ _ rfl)
theorem lay9_in {w : World} {b : Nat} {v : OpV} (h : Nine w b) : OpIn (lay9 w b v) b v :=
  ⟨(by obtain ⟨_, r⟩ := h.a0; exact cell_set (cell_set (cell_set (cell_set (cell_set (cell_set (cell_set (cell_set (World.cell?_setCell_same _ _ _ r) (by omega)) (by omega)) (by omega)) (by omega)) (by omega)) (by omega)) (by omega)) (by omega)), (by obtain ⟨_, r⟩ := h.a1; exact cell_set (cell_set (cell_set (cell_set (cell_set (cell_set (cell_set (World.cell?_setCell_same _ _ _ (cell_set r (by omega))) (by omega)) (by omega)) (by omega)) (by omega)) (by omega)) (by omega)) (by omega)), (by obtain ⟨_, r⟩ := h.a2; exact cell_set (cell_set (cell_set (cell_set (cell_set (cell_set (World.cell?_setCell_same _ _ _ (cell_set (cell_set r (by omega)) (by omega))) (by omega)) (by omega)) (by omega)) (by omega)) (by omega)) (by omega)), (by obtain ⟨_, r⟩ := h.a3; exact cell_set (cell_set (cell_set (cell_set (cell_set (World.cell?_setCell_same _ _ _ (cell_set (cell_set (cell_set r (by omega)) (by omega)) (by omega))) (by omega)) (by omega)) (by omega)) (by omega)) (by omega)), (by obtain ⟨_, r⟩ := h.a4; exact cell_set (cell_set (cell_set (cell_set (World.cell?_setCell_same _ _ _ (cell_set (cell_set (cell_set (cell_set r (by omega)) (by omega)) (by omega)) (by omega))) (by omega)) (by omega)) (by omega)) (by omega)), ⟨(by obtain ⟨_, r⟩ := h.a5; exact cell_set (cell_set (cell_set (World.cell?_setCell_same _ _ _ (cell_set (cell_set (cell_set (cell_set (cell_set r (by omega)) (by omega)) (by omega)) (by omega)) (by omega))) (by omega)) (by omega)) (by omega)), (by obtain ⟨_, r⟩ := h.a6; exact cell_set (cell_set (World.cell?_setCell_same _ _ _ (cell_set (cell_set (cell_set (cell_set (cell_set (cell_set r (by omega)) (by omega)) (by omega)) (by omega)) (by omega)) (by omega))) (by omega)) (by omega)), (by obtain ⟨_, r⟩ := h.a7; exact cell_set (World.cell?_setCell_same _ _ _ (cell_set (cell_set (cell_set (cell_set (cell_set (cell_set (cell_set r (by omega)) (by omega)) (by omega)) (by omega)) (by omega)) (by omega)) (by omega))) (by omega)), (by obtain ⟨_, r⟩ := h.a8; exact World.cell?_setCell_same _ _ _ (cell_set (cell_set (cell_set (cell_set (cell_set (cell_set (cell_set (cell_set r (by omega)) (by omega)) (by omega)) (by omega)) (by omega)) (by omega)) (by omega)) (by omega)))⟩⟩
theorem near_wf {v : OpV} (h : v.ok) : Wf (nv v.nr 3 v.i, nv v.nr 3 v.o, nv v.nr 2 v.l) :=
  ⟨nv_wf (m := 3) (by omega) (by omega) h.2.1, nv_wf (m := 3) (by omega) (by omega) h.2.2.1, nv_wf (m := 2) (by omega) (by omega) h.2.2.2⟩
theorem PkAt.new (w : World) (x : Pk) : PkAt (w.alloc (.cells #[.int .i64 x.s, .int .i64 x.d, .int .i64 x.l, .int .u32 x.b] 27)) w.heap.size 0 x := ⟨by simp, by simp, by simp, by simp⟩
end Go.Proofs.Ytpbeldcaiceakaa
