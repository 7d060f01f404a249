/-
  Contracts and plain facts that the walks lean on (IslE). Conditions: none but those that each states.
-/
import Derived.Test.YtniicgbkeifnjaaGreatDoorQ12
namespace Go.Proofs.YtniicgbkeifnjaaGreatDoor.M
open Go.ChangeShapes Go.WideShapes Go.ChangeAt Go.RowKit
set_option linter.unusedVariables false
set_option maxRecDepth 100000
def clr (m i : Nat) : Nat := m &&& (65535 - 2 ^ i)
theorem clr_bit {m i j : Nat} (hi : i < 16) (hj : j < 16) : (clr m i).testBit j = (m.testBit j && !decide (j = i)) := by
  unfold clr
  have hp : (2 : Nat) ^ i < 65536 := Nat.pow_lt_pow_right (n := 16) (by omega) (by omega)
  have hs := Nat.testBit_two_pow_sub_succ (n := 16) (x := 2 ^ i) hp j
  rw [show (2 : Nat) ^ 16 - (2 ^ i + 1) = 65535 - 2 ^ i by omega] at hs
  rw [Nat.testBit_and, hs, decide_eq_true hj, Bool.true_and, Nat.testBit_two_pow]
  by_cases e : i = j
  · subst e; simp
  · simp [e, show ¬ j = i by omega]
theorem clr_lt {m i : Nat} (h : m < 65536) : clr m i < 65536 := Nat.lt_of_le_of_lt Nat.and_le_left h
theorem clr_run {m i : Nat} (h : m < 65536) (hi : i < 16) : bits .andNot .u16 (m : Int) (IntKind.u16.wrap (2 ^ i)) = (clr m i : Nat) := by
  have hp : (2 : Nat) ^ i < 65536 := Nat.pow_lt_pow_right (n := 16) (by omega) (by omega)
  rw [shl_u16 hi]
  exact u16_andNot_nat m (2 ^ i) h hp
theorem clr_zero (i : Nat) : clr 0 i = 0 := by simp [clr]
def OpenP (w : World) (q n : Nat) (P : Nat → Nat → Bool) : Prop := ∃ O, Cols w q n O ∧ (∀ o, o < n → O o < 65536) ∧ ∀ o, o < n → ∀ i, i < n → (O o).testBit i = P o i
theorem OpenP.sans {F : Nat → Prop} {w w' : World} {q n : Nat} {P : Nat → Nat → Bool} (h : OpenP w q n P) (k : Sans F w w') (hn : ¬ F q) : OpenP w' q n P := by
  obtain ⟨O, h1, h2⟩ := h
  exact ⟨O, h1.sans k hn, h2⟩
theorem OpenP.congr {w : World} {q n : Nat} {P Q : Nat → Nat → Bool} (h : OpenP w q n P) (e : ∀ o, o < n → ∀ i, i < n → P o i = Q o i) : OpenP w q n Q := by
  obtain ⟨O, h1, h2, h3⟩ := h
  exact ⟨O, h1, h2, fun o ho i hi => by rw [h3 o ho i hi, e o ho i hi]⟩
def shutF (O : Nat → Nat) (i o k : Nat) : Nat → Nat := fun x => if x < k then clr (if x = o then 0 else O x) i else if x = o then 0 else O x
theorem shutF_step (O : Nat → Nat) (i o k x : Nat) : (if x = k then clr (shutF O i o k k) i else shutF O i o k x) = shutF O i o (k + 1) x := by
  unfold shutF
  by_cases e : x = k
  · subst e; rw [if_pos rfl, if_neg (Nat.lt_irrefl _), if_pos (Nat.lt_succ_self _)]
  · rw [if_neg e]
    by_cases h : x < k
    · rw [if_pos h, if_pos (show x < k + 1 by omega)]
    · rw [if_neg h, if_neg (show ¬ x < k + 1 by omega)]
theorem shutF_lt {O : Nat → Nat} {n : Nat} (h : ∀ o, o < n → O o < 65536) (i o k : Nat) {x : Nat} (hx : x < n) : shutF O i o k x < 65536 := by
  have h1 : (if x = o then 0 else O x) < 65536 := by
    split
    · omega
    · exact h x hx
  unfold shutF
  split
  · exact clr_lt h1
  · exact h1
theorem newCell2 (W : World) (u v : Value) (t : TypeId) : (W.alloc (.cells #[u, v] t)).cell? ⟨W.heap.size, 0, none⟩ = some u := by simp
set_option maxRecDepth 100000 in
set_option maxHeartbeats 2000000 in
theorem shut_any {w : World} {q n i o : Nat} {P : Nat → Nat → Bool} (hn : n ≤ 16) (h : OpenP w q n P) (hi : i < n) (ho : o < n) :
    Calls Tryz.prog 171 #[.slice (some ⟨q, 0, none⟩) n n, .agg #[.int .i64 (i : Nat), .int .i64 (o : Nat)]] w fun e w' => (∃ v, e = .returned v) ∧ OpenP w' q n (fun x j => P x j && !decide (x = o) && !decide (j = i)) ∧ Sans (fun j => j = q) w w' := by
  obtain ⟨O, hC, h16, hb⟩ := h
  have HO : Hid (Cols w q n O ∧ (∀ o, o < n → O o < 65536) ∧ ∀ o, o < n → ∀ i, i < n → (O o).testBit i = P o i) := ⟨hC, h16, hb⟩
  have lq : q < w.heap.size := cell_lt (hC o ho).1
  obtain ⟨c0, f0⟩ := hC o ho
  have hqB : q ≠ w.heap.size := by omega
  have hC1 : Cols (w.setCell ⟨q, o, none⟩ (.int .u16 0)) q n (shutF O i o 0) := (hC.set (k := o) (v := 0) ho).congr (fun x _ => by simp [shutF])
  have hC2 : Cols ((w.setCell ⟨q, o, none⟩ (.int .u16 0)).alloc (.cells #[.int .i64 (i : Nat), .int .i64 (o : Nat)] 253)) q n (shutF O i o 0) := hC1.below (fresh _ _)
  have hS2 : Sans (fun j => j = q) w ((w.setCell ⟨q, o, none⟩ (.int .u16 0)).alloc (.cells #[.int .i64 (i : Nat), .int .i64 (o : Nat)] 253)) := (Sans.of_set (F := fun j => j = q) w ⟨q, o, none⟩ (.int .u16 0) rfl).then (Sans.alloc _ _)
  have hB2 : ((w.setCell ⟨q, o, none⟩ (.int .u16 0)).alloc (.cells #[.int .i64 (i : Nat), .int .i64 (o : Nat)] 253)).cell? ⟨w.heap.size, 0, none⟩ = some (.int .i64 (i : Nat)) := by
    have := (newCell2 (w.setCell ⟨q, o, none⟩ (.int .u16 0)) (.int .i64 (i : Nat)) (.int .i64 (o : Nat)) 253)
    rwa [show (w.setCell ⟨q, o, none⟩ (.int .u16 0)).heap.size = w.heap.size by simp [World.setCell]] at this
  have H2 : Hid (Cols ((w.setCell ⟨q, o, none⟩ (.int .u16 0)).alloc (.cells #[.int .i64 (i : Nat), .int .i64 (o : Nat)] 253)) q n (shutF O i o 0) ∧ Sans (fun j => j = q) w ((w.setCell ⟨q, o, none⟩ (.int .u16 0)).alloc (.cells #[.int .i64 (i : Nat), .int .i64 (o : Nat)] 253)) ∧ ((w.setCell ⟨q, o, none⟩ (.int .u16 0)).alloc (.cells #[.int .i64 (i : Nat), .int .i64 (o : Nat)] 253)).cell? ⟨w.heap.size, 0, none⟩ = some (.int .i64 (i : Nat))) := ⟨hC2, hS2, hB2⟩
  clear hC h16 hb hC1 hC2 hS2 hB2
  go_enter Tryz.func171, Tryz.ntmps171
  go_wp2_with fail
  generalize ((w.setCell ⟨q, o, none⟩ (.int .u16 0)).alloc (.cells #[.int .i64 (i : Nat), .int .i64 (o : Nat)] 253)) = U at H2 ⊢
  obtain ⟨B, hBe⟩ : ∃ B, w.heap.size = B := ⟨_, rfl⟩
  rw [hBe] at H2 hqB ⊢
  clear c0 f0 lq hBe
  go_loopw [4, 11] (fun _ v wr => ∃ k : Nat, k ≤ n ∧ v = .int .i64 k ∧ Cols wr q n (shutF O i o k) ∧ Sans (fun j => j = q) w wr ∧ wr.cell? ⟨B, 0, none⟩ = some (.int .i64 (i : Nat))) (fun _ v _ => n - (intOf v).toNat)
  case atStart => exact ⟨0, Nat.zero_le _, rfl, H2.out⟩
  case round =>
    obtain ⟨k, hk, rfl, hC, hS, hB⟩ := hrel
    have HK : Hid (Cols wr q n (shutF O i o k) ∧ Sans (fun j => j = q) w wr ∧ wr.cell? ⟨B, 0, none⟩ = some (.int .i64 (i : Nat))) := ⟨hC, hS, hB⟩
    clear hC hS
    by_cases hkn : k < n
    · obtain ⟨c1, f1⟩ := HK.out.1 k hkn
      have hlt := shutF_lt HO.out.2.1 i o k hkn
      obtain ⟨z, hz⟩ : ∃ z, shutF O i o k k = z := ⟨_, rfl⟩
      rw [hz] at c1 hlt
      have hand := clr_run hlt (show i < 16 by omega)
      have HR : Hid (bits .andNot .u16 (z : Int) (IntKind.u16.wrap (2 ^ i)) = (clr z i : Nat)) := hand
      have hs : Cols (wr.setCell ⟨q, k, none⟩ (.int .u16 (clr z i : Nat))) q n (shutF O i o (k + 1)) := (HK.out.1.set (v := clr z i) hkn).congr (fun x _ => by rw [← hz]; exact shutF_step O i o k x)
      have HS : Hid (Cols (wr.setCell ⟨q, k, none⟩ (.int .u16 (clr z i : Nat))) q n (shutF O i o (k + 1)) ∧ Sans (fun j => j = q) w (wr.setCell ⟨q, k, none⟩ (.int .u16 (clr z i : Nat))) ∧ (wr.setCell ⟨q, k, none⟩ (.int .u16 (clr z i : Nat))).cell? ⟨B, 0, none⟩ = some (.int .i64 (i : Nat))) := ⟨hs, HK.out.2.1.then (Sans.of_set _ _ _ rfl), (World.cell?_setCell_other _ _ _ _ (fun e => by cases e; omega)).trans hB⟩
      clear hand hs hz hlt HK H2
      go_wp2_with fail
      go_region
      all_goals
        go_wp2_with fail
        go_roundw
        case rel =>
          rw [HR.out]
          exact ⟨k + 1, by omega, by go_num, HS.out.1.below (drewN_below _ _), HS.out.2.1.then (Sans.drewN _ _), HS.out.2.2⟩
        case measure => simp [intOf]; omega
    · obtain rfl : k = n := by omega
      clear hB
      go_wp2_with fail
      go_end0
      refine ⟨⟨_, rfl⟩, ⟨shutF O i o k, HK.out.1, fun x hx => shutF_lt HO.out.2.1 i o k hx, fun x hx j hj => ?_⟩, HK.out.2.1⟩
      unfold shutF
      rw [if_pos hx]
      by_cases e : x = o
      · rw [if_pos e, clr_zero]; simp [e]
      · rw [if_neg e, clr_bit (by omega) (by omega), HO.out.2.2 x hx j hj]; simp [e]
def filled (n c : Nat) (y : Int) : List Value := (List.range n).map fun k => Value.int .i64 (if k < c then y else 0)
theorem filled_len (n c : Nat) (y : Int) : (filled n c y).length = n := by simp [filled]
theorem filled_at {n c k : Nat} {y : Int} (h : k < n) : (filled n c y)[k]? = some (.int .i64 (if k < c then y else 0)) := by simp [filled, h]
theorem filled_more {n c d : Nat} {y : Int} (h : c + d ≤ n) : splice (filled n c y) c (List.replicate d (Value.int .i64 y)) = filled n (c + d) y := by
  apply List.ext_getElem?
  intro k
  rcases Nat.lt_or_ge k n with hk | hk
  · rw [filled_at hk]
    unfold splice
    rw [List.getElem?_append, List.getElem?_append]
    simp only [List.length_take, filled_len, List.length_replicate]
    by_cases h1 : k < c
    · rw [if_pos (by omega), List.getElem?_take, if_pos h1, filled_at hk, if_pos h1, if_pos (by omega)]
    · rw [if_neg (by omega), show min c n = c by omega]
      by_cases h2 : k - c < d
      · rw [if_pos h2, List.getElem?_replicate, if_pos h2, if_pos (by omega)]
      · rw [if_neg h2, List.getElem?_drop, show c + d + (k - c - d) = k by omega, filled_at hk, if_neg h1, if_neg (by omega)]
  · have h1 : (splice (filled n c y) c (List.replicate d (Value.int .i64 y))).length = n := by rw [length_splice _ _ _ (by rw [filled_len, List.length_replicate]; omega), filled_len]
    rw [List.getElem?_eq_none (by omega), List.getElem?_eq_none (by rw [filled_len]; omega)]
theorem rep_one {d : Nat} {y : Int} : ∀ u ∈ List.replicate d (Value.int .i64 y), u.oneCell' = true := by
  intro u hu
  rw [List.mem_replicate] at hu
  rw [hu.2]
  rfl
theorem mask32 : ∀ n, n ≤ 16 → bits .and .u64 ((n : Nat) : Int) 4294967295 = (n : Nat) := by decide +kernel
set_option maxHeartbeats 1000000 in
theorem mul64_any (n : Nat) (hn : n ≤ 16) (w : World) :
    Calls Tryz.prog 243 #[.int .u64 1, .int .u64 (n : Nat)] w fun e w' => e = .returned (.tuple #[.int .u64 0, .int .u64 (n : Nat)]) ∧ w' = w := by
  have a1 : bits .and .u64 1 4294967295 = 1 := mask32 1 (by omega)
  have a2 := mask32 n hn
  have a3 : bits .and .u64 0 4294967295 = 0 := mask32 0 (by omega)
  have a4 : (n : Int) / 4294967296 = 0 := by omega
  go_enter Tryz.func243, Tryz.ntmps243
  go_wp2_with fail
  refine bodyPost_ret (v := .tuple #[.int .u64 0, .int .u64 (n : Nat)]) (by simp [results, Tryz.f243, go_sem]) rfl ?_
  exact ⟨rfl, rfl⟩
set_option maxHeartbeats 1000000 in
theorem mul_any (n : Nat) (hn : n ≤ 16) (w : World) :
    Calls Tryz.prog 211 #[.int .u64 1, .int .u64 (n : Nat)] w fun e w' => e = .returned (.tuple #[.int .u64 0, .int .u64 (n : Nat)]) ∧ w' = w := by
  go_enter Tryz.func211, Tryz.ntmps211
  go_wp2_with (go_at_call 243; refine (mul64_any n hn _).mono ?_; rintro e w' ⟨rfl, rfl⟩)
  refine bodyPost_ret (v := .tuple #[.int .u64 0, .int .u64 (n : Nat)]) (by simp [results, Tryz.f211, go_sem]) rfl ?_
  exact ⟨rfl, rfl⟩
def Fill (W : World) (g n c : Nat) (y : Int) : Prop := W.heap[g]? = some (.cells (filled n c y).toArray 3 (0, 0))
theorem Fill.cell {W : World} {g n c k : Nat} {y : Int} (h : Fill W g n c y) (hk : k < n) : W.cell? ⟨g, k, none⟩ = some (.int .i64 (if k < c then y else 0)) ∧ W.frozen? ⟨g, k, none⟩ = false := by
  constructor
  · unfold World.cell?
    dsimp only
    rw [h]
    simpa using filled_at hk
  · unfold World.frozen?
    dsimp only
    rw [h]
    simp
theorem Fill.ints {W : World} {g n : Nat} {y : Int} (h : Fill W g n n y) : Ints W g n (fun _ => y) := fun k hk => by
  have := h.cell hk
  rw [if_pos hk] at this
  exact this
theorem Fill.made (w : World) (n : Nat) (y : Int) : Fill (w.alloc (.cells (madeCells #[.int .i64 0] n) 3)) w.heap.size n 0 y := by
  unfold Fill
  rw [World.alloc_heap_new]
  congr 2
  apply Array.toList_inj.1
  rw [toList_madeCells_one]
  apply List.ext_getElem?
  intro k
  rw [List.getElem?_replicate]
  rcases Nat.lt_or_ge k n with h | h
  · rw [if_pos h]
    have := filled_at (c := 0) (y := y) h
    simpa using this.symm
  · rw [if_neg (by omega)]
    have : (filled n 0 y)[k]? = none := List.getElem?_eq_none (by rw [filled_len]; omega)
    simpa using this.symm
theorem copy_fill {W w0 : World} {g n c d dLen dCap sLen sCap : Nat} {y : Int} (hF : Fill W g n c y) (hb : Below w0.heap.size w0 W) (hg : w0.heap.size ≤ g) (ad : Addr) (hsrc : ∀ j, j < d → W.cell? (ad.add j) = some (.int .i64 y)) (hd : d = min sLen dLen) (hfit : c + d ≤ n) :
    ∃ W', (Builtin.copy_ #[27, 27] 3 #[.slice (some ⟨g, c, none⟩) dLen dCap, .slice (some ad) sLen sCap]).run Tryz.prog W = .ok (.int .i64 (d : Nat)) W' ∧ Fill W' g n (c + d) y ∧ Below w0.heap.size w0 W' := by
  have hsz : (Tryz.prog.info? 3).map (·.size) = some 1 := by kernel_rfl
  have hcp := run_copy_row (P := Tryz.prog) W 27 27 3 3 g c dLen dCap ad sLen sCap (filled n c y).toArray 3 (List.replicate d (Value.int .i64 y)) Tryz.underlying27 hsz hF
    (by rw [List.length_replicate]; exact hd) (fun j v hv => by
      rw [List.getElem?_replicate] at hv
      split at hv
      · rename_i hj
        rw [← hv]; exact hsrc j hj
      · cases hv) (by rw [List.size_toArray, filled_len, List.length_replicate]; exact hfit) rep_one
  rw [List.length_replicate] at hcp
  refine ⟨_, hcp, ?_, below_setRow hb hg _⟩
  have e := setRow_heap W g (filled n c y).toArray (splice (filled n c y) c (List.replicate d (Value.int .i64 y))).toArray 3 _ hF
  rw [filled_more hfit] at e
  unfold Fill
  rw [← e]
  congr 3
  rw [← filled_more hfit]
  unfold splice
  rw [List.length_replicate, List.append_assoc]
set_option maxRecDepth 100000 in
set_option maxHeartbeats 2000000 in
theorem repeat_any {w : World} {b : Nat} {y : Int} (n : Nat) (hn : 1 ≤ n ∧ n ≤ 16) (h : w.cell? ⟨b, 0, none⟩ = some (.int .i64 y)) :
    Calls Tryz.prog 167 #[.slice (some ⟨b, 0, none⟩) 1 1, .int .i64 (n : Nat)] w fun e w' => e = .returned (.slice (some ⟨w.heap.size, 0, none⟩) n n) ∧ Ints w' w.heap.size n (fun _ => y) ∧ Below w.heap.size w w' := by
  obtain ⟨hn1, hn2⟩ := hn
  have hmk := run_make_row' (P := Tryz.prog) 27 3 (.int .i64 0) 8 Tryz.underlying27 infoI rfl .i64 .i64 n (by omega) (by omega)
  have hlt := cell_lt h
  obtain ⟨U, hcp, hF, hB⟩ := copy_fill (dLen := n) (dCap := n) (sLen := 1) (sCap := 1) (d := 1) (Fill.made w n y) (fresh w (.cells (madeCells #[.int .i64 0] n) 3)) (Nat.le_refl _) ⟨b, 0, none⟩ (fun j hj => by
    obtain rfl : j = 0 := by omega
    rw [add_lit]
    exact ((fresh w _).cell (p := ⟨b, 0, none⟩) hlt).trans h) (by omega) (by omega)
  have HU : Hid (Fill U w.heap.size n 1 y ∧ Below w.heap.size w U) := ⟨by simpa using hF, hB⟩
  clear h hF hB hlt
  have d1 : decide ((n : Int) < 0) = false := decide_eq_false (by omega)
  have d2 : decide ((9223372036854775807 : Int) < (n : Int)) = false := decide_eq_false (by omega)
  go_enter Tryz.func167, Tryz.ntmps167
  go_wp2_with (go_at_call 211; refine (mul_any n hn2 _).mono ?_; rintro e w' ⟨rfl, hq⟩; obtain rfl := hq.symm)
  clear hq d1 d2 hcp hmk
  go_loopw [8] (fun v wr => ∃ c : Nat, 1 ≤ c ∧ c ≤ n ∧ v = .int .i64 c ∧ Fill wr w.heap.size n c y ∧ Below w.heap.size w wr) (fun v _ => n - (intOf v).toNat)
  case atStart => exact ⟨1, Nat.le_refl _, hn1, rfl, HU.out⟩
  case round =>
    obtain ⟨c, hc1, hcn, rfl, hF, hB⟩ := hrel
    have HK : Hid (Fill wr w.heap.size n c y ∧ Below w.heap.size w wr) := ⟨hF, hB⟩
    by_cases hlt : c < n
    · obtain ⟨V, hcp, hF2, hB2⟩ := copy_fill (W := wr.drew) (w0 := w) (dLen := n - c) (dCap := n - c) (sLen := c) (sCap := n) (d := min c (n - c)) hF (later hB (drewN_below _ 1)) (Nat.le_refl _) ⟨w.heap.size, 0, none⟩ (fun j hj => by
        rw [add_lit, Nat.zero_add]
        have := hF.cell (k := j) (by omega)
        rw [if_pos (by omega)] at this
        exact this.1) rfl (by omega)
      obtain ⟨d, hd⟩ : ∃ d, min c (n - c) = d := ⟨_, rfl⟩
      rw [hd] at hcp hF2
      have hd1 : 1 ≤ d := by omega
      have hd2 : c + d ≤ n := by omega
      have HV : Hid (Fill V w.heap.size n (c + d) y ∧ Below w.heap.size w V) := ⟨hF2, hB2⟩
      clear hF hB hF2 hB2 hd
      have i1 : (0 : Int) ≤ (c : Int) := by omega
      have i2 : (c : Int) ≤ (n : Int) := by omega
      have i3 : (c : Int) < (n : Int) := by omega
      go_wp2_with fail
      go_region
      all_goals
        go_wp2_with fail
        go_roundw
        case rel => exact ⟨c + d, by omega, by omega, by go_num, HV.out.1, HV.out.2⟩
        case measure => simp [intOf]; omega
    · obtain rfl : c = n := by omega
      clear hF hB
      go_wp2_with fail
      go_ret
      exact ⟨rfl, HK.out.1.ints, HK.out.2⟩
end Go.Proofs.YtniicgbkeifnjaaGreatDoor.M
