/-
  Rows of masks turned into columns, by the document (shunterref09.Turn): what it comes to at any rows. Conditions: that the slice leads to masks.
-/
import Derived.Test.YtlojadodabddpaaDoorMaskD
import Derived.Deep.OwnRows
import Derived.Deep.RegionWith
namespace Go.Proofs.YtlojadodabddpaaDoor
open Go.ChangeShapes Go.WideShapes Go.ChangeAt Go.RowKit
set_option linter.unusedVariables false

/-- block g holds n masks, those that f says, and may be written -/
def Cols (W : World) (g n : Nat) (f : Nat → Nat) : Prop := ∀ k, k < n → W.cell? ⟨g, k, none⟩ = some (.int .u16 (f k : Nat)) ∧ W.frozen? ⟨g, k, none⟩ = false
theorem Cols.congr {W : World} {g n : Nat} {f h : Nat → Nat} (c : Cols W g n f) (e : ∀ k, k < n → f k = h k) : Cols W g n h := fun k hk => by
  rw [← e k hk]
  exact c k hk
theorem Cols.set {W : World} {g n k v : Nat} {f : Nat → Nat} (c : Cols W g n f) (hk : k < n) : Cols (W.setCell ⟨g, k, none⟩ (.int .u16 (v : Nat))) g n (fun j => if j = k then v else f j) := fun j hj => by
  refine ⟨?_, by rw [World.frozen?_setCell]; exact (c j hj).2⟩
  show _ = some (Value.int .u16 ((if j = k then v else f j : Nat) : Int))
  by_cases e : j = k
  · subst e
    rw [if_pos rfl]
    exact World.cell?_setCell_same _ _ _ (c j hj).1
  · rw [if_neg e, World.cell?_setCell_other _ _ _ _ (fun h => e (by cases h; rfl))]
    exact (c j hj).1
theorem Cols.drew {W : World} {g n m : Nat} {f : Nat → Nat} (c : Cols W g n f) : Cols (W.drewN m) g n f := c
theorem Cols.drew1 {W : World} {g n : Nat} {f : Nat → Nat} (c : Cols W g n f) : Cols W.drew g n f := c
theorem Cols.made (w : World) (n : Nat) : Cols (w.alloc (.cells (madeCells #[.int .u16 0] n) 29)) w.heap.size n (fun _ => 0) := fun k hk => by
  have hb := World.alloc_heap_new w (.cells (madeCells #[.int .u16 0] n) 29)
  constructor
  · unfold World.cell?
    dsimp only
    rw [hb]
    simp [madeCells, hk, Nat.mod_one]
  · unfold World.frozen?
    dsimp only
    rw [hb]
    simp
theorem Cols.below {W W' : World} {g n : Nat} {f : Nat → Nat} (c : Cols W g n f) (k : Below W.heap.size W W') : Cols W' g n f := fun j hj => by
  have hlt : g < W.heap.size := cell_lt (c j hj).1
  exact ⟨(k.cell (p := ⟨g, j, none⟩) hlt).trans (c j hj).1, (k.frozen (p := ⟨g, j, none⟩) hlt).trans (c j hj).2⟩
theorem Cols.nums {W : World} {g n : Nat} {f : Nat → Nat} (c : Cols W g n f) (hn : n ≤ 16) {l : List Nat} (hl : l.length = n) (e : ∀ k, k < n → f k = l.getD k 0) : Nums .u16 W (some ⟨g, 0, none⟩) n l := by
  refine ⟨hl, by unfold maxLen; omega, ?_⟩
  rcases Nat.eq_zero_or_pos n with h0 | h0
  · exact .inl h0
  · refine .inr ⟨g, 0, rfl, cell_lt (c 0 h0).1, fun i hi => ?_⟩
    rw [Nat.zero_add, ← e i hi]
    exact (c i hi).1

/-- what Turn says -/
def turnL (rows : List Nat) (n : Int) : List Nat := if 1 ≤ n ∧ n ≤ 16 then Mask.turn rows n.toNat else []
theorem turnL_in {rows : List Nat} {n : Nat} (h : 1 ≤ n ∧ n ≤ 16) : turnL rows n = Mask.turn rows n := by
  unfold turnL
  rw [if_pos (by omega)]
  rfl
theorem turnL_out {rows : List Nat} {n : Int} (h : ¬ (1 ≤ n ∧ n ≤ 16)) : turnL rows n = [] := by
  unfold turnL
  rw [if_neg h]
/-- the columns below k are done, of column k the first j rows -/
def done (rows : List Nat) (M k j : Nat) : Nat → Nat := fun x => if x < k then Mask.col rows x M else if x = k then Mask.col rows k j else 0
theorem done_zero (rows : List Nat) (M x : Nat) : done rows M 0 0 x = 0 := by
  unfold done
  rw [if_neg (by omega)]
  split <;> simp [Mask.col]
theorem done_next (rows : List Nat) (M k x : Nat) : done rows M k M x = done rows M (k + 1) 0 x := by
  unfold done
  by_cases h1 : x < k
  · rw [if_pos h1, if_pos (by omega)]
  · by_cases h2 : x = k
    · subst h2; rw [if_neg (by omega), if_pos rfl, if_pos (by omega)]
    · rw [if_neg h1, if_neg h2, if_neg (by omega)]
      split <;> simp [Mask.col]
theorem done_hit {rows : List Nat} {M k j : Nat} (h : (rows.getD j 0).testBit k = true) (x : Nat) : (if x = k then Mask.col rows k j + 2 ^ j else done rows M k j x) = done rows M k (j + 1) x := by
  unfold done
  by_cases h1 : x = k
  · subst h1; rw [if_pos rfl, if_neg (by omega), if_pos rfl, Mask.col, if_pos h]
  · rw [if_neg h1]
    simp [h1]
theorem done_miss {rows : List Nat} {M k j : Nat} (h : (rows.getD j 0).testBit k = false) (x : Nat) : done rows M k j x = done rows M k (j + 1) x := by
  unfold done
  by_cases h1 : x = k
  · subst h1; rw [if_neg (by omega), if_pos rfl, if_neg (by omega), if_pos rfl, Mask.col, h]; simp
  · simp [h1]
theorem done_at (rows : List Nat) (M k j : Nat) : done rows M k j k = Mask.col rows k j := by simp [done]

end Go.Proofs.YtlojadodabddpaaDoor
