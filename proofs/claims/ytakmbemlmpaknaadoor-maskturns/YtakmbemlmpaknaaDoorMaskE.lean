/-
  Rows of masks turned into columns, by the document (shunterref09.Turn): what it comes to at any rows. Conditions: that the slice leads to masks.
-/
import Derived.Test.YtakmbemlmpaknaaDoorMaskD
import Derived.Deep.OwnRows
import Derived.Deep.RegionWith
namespace Go.Proofs.YtakmbemlmpaknaaDoor
open Go.ChangeShapes Go.WideShapes Go.ChangeAt Go.RowKit
set_option linter.unusedVariables false

/-- block g holds n masks, those that f says, and may be written -/
def Cols (W : World) (g n : Nat) (f : Nat → Nat) : Prop := ∀ k, k < n → W.cell? ⟨g, k, none⟩ = some (.int .u16 (f k : Nat)) ∧ W.frozen? ⟨g, k, none⟩ = false
theorem Cols.congr {W : World} {g n : Nat} {f h : Nat → Nat} (c : Cols W g n f) (e : ∀ k, k < n → f k = h k) : Cols W g n h := fun k hk => by
  rw [← e k hk]
  exact c k hk
theorem Cols.set {W : World} {g n k v : Nat} {f : Nat → Nat} (c : Cols W g n f) (hk : k < n) : Cols (W.setCell ⟨g, k, none⟩ (.int .u16 (v : Nat))) g n (fun j => if j = k then v else f j) := fun j hj => by
  refine ⟨?_, by rw [World.frozen?_setCell]; exact (c j hj).2⟩
  show _ = some (Value.int .u16 ((if j = k then v else f j : Nat) : Int))
  by_cases e : j = k
  · subst e
    rw [if_pos rfl]
    exact World.cell?_setCell_same _ _ _ (c j hj).1
  · rw [if_neg e, World.cell?_setCell_other _ _ _ _ (fun h => e (by cases h; rfl))]
    exact (c j hj).1
theorem Cols.drew {W : World} {g n m : Nat} {f : Nat → Nat} (c : Cols W g n f) : Cols (W.drewN m) g n f := c
theorem Cols.drew1 {W : World} {g n : Nat} {f : Nat → Nat} (c : Cols W g n f) : Cols W.drew g n f := c
theorem Cols.made (w : World) (n : Nat) : Cols (w.alloc (.cells (madeCells #[.int .u16 0] n) 22)) w.heap.size n (fun _ => 0) := fun k hk => by
  have hb := World.alloc_heap_new w (.cells (madeCells #[.int .u16 0] n) 22)
  constructor
  · unfold World.cell?
    dsimp only
    rw [hb]
    simp [madeCells, hk, Nat.mod_one]
  · unfold World.frozen?
    dsimp only
    rw [hb]
    simp
theorem Cols.below {W W' : World} {g n : Nat} {f : Nat → Nat} (c : Cols W g n f) (k : Below W.heap.size W W') : Cols W' g n f := fun j hj => by
  have hlt : g < W.heap.size := cell_lt (c j hj).1
  exact ⟨(k.cell (p := ⟨g, j, none⟩) hlt).trans (c j hj).1, (k.frozen (p := ⟨g, j, none⟩) hlt).trans (c j hj).2⟩
theorem Cols.nums {W : World} {g n : Nat} {f : Nat → Nat} (c : Cols W g n f) (hn : n ≤ 16) {l : List Nat} (hl : l.length = n) (e : ∀ k, k < n → f k = l.getD k 0) : Nums .u16 W (some ⟨g, 0, none⟩) n l := by
  refine ⟨hl, by unfold maxLen; omega, ?_⟩
  rcases Nat.eq_zero_or_pos n with h0 | h0
  · exact .inl h0
  · refine .inr ⟨g, 0, rfl, cell_lt (c 0 h0).1, fun i hi => ?_⟩
    rw [Nat.zero_add, ← e i hi]
    exact (c i hi).1

/-- what Turn says -/
def turnL (rows : List Nat) (n : Int) : List Nat := if 1 ≤ n ∧ n ≤ 16 then Mask.turn rows n.toNat else []
theorem turnL_in {rows : List Nat} {n : Nat} (h : 1 ≤ n ∧ n ≤ 16) : turnL rows n = Mask.turn rows n := by
  unfold turnL
  rw [if_pos (by omega)]
  rfl
theorem turnL_out {rows : List Nat} {n : Int} (h : ¬ (1 ≤ n ∧ n ≤ 16)) : turnL rows n = [] := by
  unfold turnL
  rw [if_neg h]
/-- the columns below k are done, of column k the first j rows -/
def done (rows : List Nat) (M k j : Nat) : Nat → Nat := fun x => if x < k then Mask.col rows x M else if x = k then Mask.col rows k j else 0
theorem done_zero (rows : List Nat) (M x : Nat) : done rows M 0 0 x = 0 := by
  unfold done
  rw [if_neg (by omega)]
  split <;> simp [Mask.col]
theorem done_next (rows : List Nat) (M k x : Nat) : done rows M k M x = done rows M (k + 1) 0 x := by
  unfold done
  by_cases h1 : x < k
  · rw [if_pos h1, if_pos (by omega)]
  · by_cases h2 : x = k
    · subst h2; rw [if_neg (by omega), if_pos rfl, if_pos (by omega)]
    · rw [if_neg h1, if_neg h2, if_neg (by omega)]
      split <;> simp [Mask.col]
theorem done_hit {rows : List Nat} {M k j : Nat} (h : (rows.getD j 0).testBit k = true) (x : Nat) : (if x = k then Mask.col rows k j + 2 ^ j else done rows M k j x) = done rows M k (j + 1) x := by
  unfold done
  by_cases h1 : x = k
  · subst h1; rw [if_pos rfl, if_neg (by omega), if_pos rfl, Mask.col, if_pos h]
  · rw [if_neg h1]
    simp [h1]
theorem done_miss {rows : List Nat} {M k j : Nat} (h : (rows.getD j 0).testBit k = false) (x : Nat) : done rows M k j x = done rows M k (j + 1) x := by
  unfold done
  by_cases h1 : x = k
  · subst h1; rw [if_neg (by omega), if_pos rfl, if_neg (by omega), if_pos rfl, Mask.col, h]; simp
  · simp [h1]
theorem done_at (rows : List Nat) (M k j : Nat) : done rows M k j k = Mask.col rows k j := by simp [done]

theorem refTurn_no (a : Option Addr) (len cap : Nat) (n : Int) (h : ¬ (1 ≤ n ∧ n ≤ 16)) (w : World) :
    Calls Tryd.prog 24 #[.slice a len cap, .int .i64 n] w fun e w' => e = .returned (.slice none 0 0) ∧ w' = w := by
  by_cases h1 : n < 1
  · go_enter Tryd.func24, Tryd.ntmps24
    go_wp2
    go_ret
    exact ⟨rfl, rfl⟩
  · have h2 : 16 < n := by omega
    go_enter Tryd.func24, Tryd.ntmps24
    go_wp2
    go_ret
    exact ⟨rfl, rfl⟩

set_option maxRecDepth 100000 in
set_option maxHeartbeats 2000000 in
theorem refTurn_yes (a : Option Addr) (len cap : Nat) (rows : List Nat) (hl : ∀ x ∈ rows, x < 65536) (n : Nat) (hn1 : 1 ≤ n) (hn : n ≤ 16) (w : World) (hr : Nums .u16 w a len rows) :
    Calls Tryd.prog 24 #[.slice a len cap, .int .i64 (n : Nat)] w fun e w' => e = .returned (.slice (some ⟨w.heap.size, 0, none⟩) n n) ∧ Nums .u16 w' (some ⟨w.heap.size, 0, none⟩) n (Mask.turn rows n) ∧ Below w.heap.size w w' := by
  have hlen := hr.1
  have hmx := hr.2.1
  unfold maxLen at hmx
  have HR : Hid (Nums .u16 w a len rows) := hr
  have HLen : Hid (rows.length = len) := hlen
  have HL : Hid (∀ x ∈ rows, x < 65536) := hl
  clear hr hlen hl
  have hmk := run_make_row' (P := Tryd.prog) 27 22 (.int .u16 0) 2 Tryd.underlying27 infoM rfl .i64 .i64 n (by omega) (by omega)
  have HC0 : Hid (Cols (w.alloc (.cells (madeCells #[.int .u16 0] n) 22)) w.heap.size n (fun _ => 0)) := Cols.made w n
  have HB0 : Hid (Below w.heap.size w (w.alloc (.cells (madeCells #[.int .u16 0] n) 22))) := (Below.refl _ w).alloc (Nat.le_refl _) _
  have d1 : decide ((n : Int) < 1) = false := decide_eq_false (by omega)
  have d2 : decide ((16 : Int) < (n : Int)) = false := decide_eq_false (by omega)
  obtain ⟨M, hM⟩ : ∃ M, min len 16 = M := ⟨_, rfl⟩
  go_enter Tryd.func24, Tryd.ntmps24
  go_wp2
  generalize w.alloc (.cells (madeCells #[.int .u16 0] n) 22) = u0 at HC0 HB0 ⊢
  go_loopw [6] (fun i wr => ∃ k : Nat, k ≤ n ∧ i = .int .i64 k ∧ Cols wr w.heap.size n (done rows M k 0) ∧ Below w.heap.size w wr) (fun i _ => n - (intOf i).toNat)
  case atStart => exact ⟨0, Nat.zero_le _, rfl, HC0.out.congr (fun k _ => (done_zero rows M k).symm), HB0.out⟩
  case round =>
    obtain ⟨k, hk, rfl, hc, hB⟩ := hrel
    have HC : Hid (Cols wr w.heap.size n (done rows M k 0)) := hc
    have HB : Hid (Below w.heap.size w wr) := hB
    clear hc hB
    by_cases hkn : k < n
    · go_wp2
      go_loopw [7] (fun i wr => ∃ j : Nat, j ≤ M ∧ i = .int .i64 j ∧ Cols wr w.heap.size n (done rows M k j) ∧ Below w.heap.size w wr) (fun i _ => M - (intOf i).toNat)
      case atStart => exact ⟨0, Nat.zero_le _, rfl, HC.out, HB.out⟩
      case round =>
        obtain ⟨j, hj, rfl, hc, hB⟩ := hrel
        have HC2 : Hid (Cols wr w.heap.size n (done rows M k j)) := hc
        have HB2 : Hid (Below w.heap.size w wr) := hB
        clear hc hB HC HB
        by_cases hjM : j < M
        · have hjl : j < len := by omega
          have hj16 : j < 16 := by omega
          obtain ⟨b, off, rfl, hx⟩ := (HR.out.below HB2.out).at hjl
          obtain ⟨x, hx2⟩ : ∃ x, rows.getD j 0 = x := ⟨_, rfl⟩
          have hx16 : x < 65536 := by rw [← hx2]; exact HL.out _ (by have e := HLen.out; simp [List.getD, show j < rows.length by omega])
          rw [hx2] at hx
          have HX : Hid (rows.getD j 0 = x) := hx2
          clear hx2
          have hbit := hasB_nat (m := x) (show k < 16 by omega)
          obtain ⟨t, ht⟩ : ∃ t, x.testBit k = t := ⟨_, rfl⟩
          rw [ht] at hbit
          have HT : Hid (x.testBit k = t) := ht
          clear ht
          cases t with
          | false =>
            go_wp2_with (go_at_call 16; refine (refHas_any x hx16 _ _).mono ?_; rintro e w' ⟨rfl, hq⟩; obtain rfl := hq.symm)
            go_roundw
            case rel => exact ⟨j + 1, by omega, by go_num, HC2.out.congr (fun y _ => done_miss (by rw [HX.out]; exact HT.out) y), HB2.out⟩
            case measure => simp [intOf]; omega
          | true =>
            have hcc := HC2.out k hkn
            rw [done_at] at hcc
            obtain ⟨c1, f1⟩ := hcc
            have hlt := Mask.col_lt rows k j
            have hp : (2 : Nat) ^ j ≤ 32768 := Nat.pow_le_pow_right (j := 15) (by omega) (by omega)
            obtain ⟨y, hy⟩ : ∃ y, Mask.col rows k j = y := ⟨_, rfl⟩
            obtain ⟨p, hp2⟩ : ∃ p, 2 ^ j = p := ⟨_, rfl⟩
            rw [hy] at c1 hlt
            rw [hp2] at hlt hp
            have HY : Hid (Mask.col rows k j = y ∧ 2 ^ j = p) := ⟨hy, hp2⟩
            clear hy hp2
            go_wp2_with (go_at_call 16; refine (refHas_any x hx16 _ _).mono ?_; rintro e w' ⟨rfl, hq⟩; obtain rfl := hq.symm)
            go_region_with (go_at_call 25; refine (refBit_any j hj16 _).mono ?_; rintro e w' ⟨rfl, hq⟩; obtain rfl := hq.symm)
            all_goals
              have hs : Cols (wr.setCell ⟨w.heap.size, k, none⟩ (.int .u16 ((y + p : Nat) : Int))) w.heap.size n (done rows M k (j + 1)) := by
                refine (HC2.out.set (k := k) (v := y + p) hkn).congr (fun z _ => ?_)
                rw [← HY.out.1, ← HY.out.2]
                exact done_hit (by rw [HX.out]; exact HT.out) z
              have hb3 := HB2.out.setCell (p := ⟨w.heap.size, k, none⟩) (Nat.le_refl _) (.int .u16 ((y + p : Nat) : Int))
              have hsum : IntKind.u16.wrap ((y : Int) + 2 ^ j) = ((y + p : Nat) : Int) := by
                have e := HY.out.2
                have e2 : ((2 : Int) ^ j) = ((p : Nat) : Int) := by rw [← e]; simp
                rw [e2, IntKind.wrap_u16]
                omega
              have HS : Hid (Cols (wr.setCell ⟨w.heap.size, k, none⟩ (.int .u16 ((y + p : Nat) : Int))) w.heap.size n (done rows M k (j + 1)) ∧ Below w.heap.size w (wr.setCell ⟨w.heap.size, k, none⟩ (.int .u16 ((y + p : Nat) : Int)))) := ⟨hs, hb3⟩
              have HV : Hid (IntKind.u16.wrap ((y : Int) + 2 ^ j) = ((y + p : Nat) : Int)) := hsum
              clear hs hb3 hsum
              go_wp2
              go_roundw
              case rel =>
                rw [HV.out]
                exact ⟨j + 1, by omega, by go_num, HS.out.1.drew1, HS.out.2.drew⟩
              case measure => simp [intOf]; omega
        · obtain rfl : j = M := by omega
          have hd : (decide ((j : Int) < (len : Int)) && decide ((j : Int) < 16)) = false := by
            rcases Nat.lt_or_ge j len with h | h
            · rw [decide_eq_false (p := (j : Int) < 16) (by omega), Bool.and_false]
            · rw [decide_eq_false (p := (j : Int) < (len : Int)) (by omega), Bool.false_and]
          go_wp2
          all_goals exact ⟨⟨k + 1, by omega, by go_num, HC2.out.congr (fun x _ => done_next rows _ k x), HB2.out⟩, by simp [intOf]; omega⟩
    · obtain rfl : k = n := by omega
      go_wp2
      go_ret
      refine ⟨rfl, ?_, HB.out⟩
      refine HC.out.nums hn (Mask.turn_len _ _) (fun x hx => ?_)
      rw [Mask.turn_at hx, HLen.out, hM, done, if_pos hx]
end Go.Proofs.YtakmbemlmpaknaaDoor
