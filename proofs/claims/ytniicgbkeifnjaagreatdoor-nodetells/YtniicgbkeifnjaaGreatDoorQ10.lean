/-
  Contracts and plain facts that the walks lean on (MaskC, MaskD, MaskE). Conditions: none but those that each states.
-/
import Derived.Test.YtniicgbkeifnjaaGreatDoorQ9
import Derived.RangeFuncNested
import Derived.RangeFuncBound
import Derived.RangeFuncCalls
import Derived.RangeFuncLeaves
import Derived.Shelf.Abstract
import Derived.Shelf.RegionOpen
import Derived.OwnWalkIn
import Derived.TacticsInMore
import Derived.LoopNIn
import Derived.LoopIn
namespace Go.Proofs.YtniicgbkeifnjaaGreatDoor.M
open Go.ChangeShapes Go.WideShapes Go.ChangeAt Go.RowKit Go.Shelf
set_option linter.unusedVariables false
set_option maxRecDepth 100000
attribute [local go_sem] Oper.semAt_some
theorem bits_step {m left i q : Nat} {pre : List Nat} (he : left = 2 ^ i * (2 * q + 1)) (hl : left < 65536) (h : Mask.bitsOf m = pre ++ Mask.bitsOf left) : Mask.bitsOf m = (pre ++ [i]) ++ Mask.bitsOf (left &&& (left - 1)) := by
  subst he
  rw [h, Mask.bits_cons hl]
  simp
set_option maxRecDepth 100000 in
set_option maxHeartbeats 1000000 in
theorem each1_in (n : Nat) (hn : 1 ≤ n) (l Bn n₀ m : Nat) (hm : m < 65536) (hn₀ : 0 < n₀) (J Jx : List Nat → World → Prop)
    (hY : ∀ pre x W, J pre W → pre.length < (Mask.bitsOf m).length → YieldAt Fence.wide (n - 1) Tryz.prog l #[.int .i64 (x : Nat)] W fun e W' =>
      (e = .returned (.bool true) ∧ J (pre ++ [x]) W' ∧ Below n₀ W W') ∨ (e = .returned (.bool false) ∧ Jx (pre ++ [x]) W'))
    (W : World) (hBn : W.cell? ⟨Bn, 0, none⟩ = some (.int .u16 (m : Nat))) (hT : Tab W) (h0 : J [] W) :
    CallsIn Fence.wide n Tryz.prog 240 #[.func (.yield l) #[] #[], .pointer (some ⟨Bn, 0, none⟩)] W fun e W' => (∃ v, e = .returned v) ∧
      ((∃ ys, ys = Mask.bitsOf m ∧ J ys W') ∨ (∃ pre, pre <+: Mask.bitsOf m ∧ Jx pre W')) := by
  have HT : Hid (Tab W) := hT
  clear hT
  refine callsIn_of_wp Tryz.func240 rfl trivial ?_ rfl
  simp only [Tryz.ntmps240, List.size_toArray, List.length_cons, List.length_nil, Nat.reduceAdd, Nat.reduceSub, Array.replicate_succ, Array.replicate_zero, List.push_toArray, List.append_toArray, List.nil_append, List.cons_append]
  gi_wp2
  gi_loopw [3] (fun v wr => ∃ (pre : List Nat) (left : Nat), v = .int .u16 (left : Nat) ∧ left < 65536 ∧ Mask.bitsOf m = pre ++ Mask.bitsOf left ∧ Tab wr ∧ J pre wr)
    (fun v _ => (intOf v).toNat)
  case atStart => exact ⟨[], m, rfl, hm, rfl, HT.out, h0⟩
  case round =>
    obtain ⟨pre, left, rfl, hl, hx, hT, hJs⟩ := hrel
    by_cases hz : left = 0
    · subst hz
      rw [Mask.bits_zero, List.append_nil] at hx
      gi_wp2
      go_end0
      exact ⟨⟨_, rfl⟩, .inl ⟨pre, hx.symm, hJs⟩⟩
    · obtain ⟨i, q, he⟩ := Mask.lowest left hz
      have hx2 := bits_step he hl hx
      have e1 : ((left : Int) == 0) = false := by simp; omega
      have e2 : bits .and .u16 (left : Int) ((left : Int) - 1) = ((left &&& (left - 1) : Nat) : Int) := by
        rw [show (left : Int) - 1 = ((left - 1 : Nat) : Int) by omega]; exact u16_and_nat _ _ hl (by omega)
      have hlt : left &&& (left - 1) < left := Nat.lt_of_le_of_lt Nat.and_le_right (by omega)
      have HE : Hid (left = 2 ^ i * (2 * q + 1)) := he
      have HX : Hid (Mask.bitsOf m = (pre ++ [i]) ++ Mask.bitsOf (left &&& (left - 1))) := hx2
      obtain ⟨fn, tmps, assign, body, hy, hR⟩ := hY pre i wr hJs (by rw [hx2]; simp)
      have HTr : Hid (Tab wr) := hT
      have h1 : 1 ≤ (left : Int) := by omega
      clear he hx hx2 hT hz
      gi_wp2_with (refine ⟨trivial, ?_⟩; gi_at_call 241; refine (callsIn_wide.2 (ctz_any left i q HE.out hl _ HTr.out)).mono ?_; rintro e w' ⟨rfl, hq⟩; obtain rfl := hq.symm)
      refine hR.mono ?_
      rintro e W3 (⟨rfl, hJ3, hk3⟩ | ⟨rfl, hJx3⟩)
      · gi_wp2
        go_roundw
        case rel => exact ⟨pre ++ [i], left &&& (left - 1), by first | rfl | (rw [← e2]), by omega, HX.out, HTr.out.below hk3 hn₀, hJ3⟩
        case measure => simp [intOf]; omega
      · gi_wp2
        refine bodyPost_ret (results_none rfl _ _ _) rfl ?_
        exact ⟨⟨_, rfl⟩, .inr ⟨pre ++ [i], ⟨_, HX.out.symm⟩, hJx3⟩⟩
theorem each_in (n : Nat) (m : Nat) (w : World) :
    CallsIn Fence.wide n Tryz.prog 210 #[.int .u16 (m : Nat)] w fun e w' => e = .returned (.func (.func 240) #[] #[.pointer (some ⟨w.heap.size, 0, none⟩)]) ∧ w' = w.alloc (.cells #[.int .u16 (m : Nat)] 28) := by
  refine callsIn_of_wp Tryz.func210 rfl trivial ?_ rfl
  simp only [Tryz.ntmps210, List.size_toArray, List.length_cons, List.length_nil, Nat.reduceAdd, Nat.reduceSub, Array.replicate_succ, Array.replicate_zero, List.push_toArray, List.append_toArray, List.nil_append, List.cons_append]
  gi_wp2
  go_ret
  exact ⟨rfl, rfl⟩
theorem each_stops (n : Nat) (hn : 1 ≤ n) (Bn n₀ m : Nat) (hm : m < 65536) (hn₀ : 0 < n₀) (w : World) (hBn : Bn < w.heap.size) (hn₁ : n₀ ≤ w.heap.size)
    (hc : w.cell? ⟨Bn, 0, none⟩ = some (.int .u16 (m : Nat))) (hT : Tab w) :
    SeqStopsK Fence.wide n Tryz.prog 240 #[.pointer (some ⟨Bn, 0, none⟩)] (fun x : Nat => #[Value.int .i64 (x : Nat)]) (Below n₀) (fun ys => ys = Mask.bitsOf m) (fun pre => pre <+: Mask.bitsOf m) (Mask.bitsOf m).length w := fun l J Jx W hW _ _ hY h0 =>
  each1_in n hn l Bn n₀ m hm hn₀ J Jx hY W ((hW.cell (p := ⟨Bn, 0, none⟩) hBn).trans hc) (hT.below hW (Nat.lt_of_lt_of_le hn₀ hn₁)) h0
theorem round_take {f n k : Nat} (h : k < n) : (Mask.roundOf f n).take (k + 1) = (Mask.roundOf f n).take k ++ [(f + k) % n] := by
  rw [List.take_succ_eq_append_getElem (by rw [Mask.round_len]; exact h)]
  simp [Mask.roundOf]
set_option maxRecDepth 100000 in
set_option maxHeartbeats 1000000 in
theorem round1_in (n : Nat) (hn : 1 ≤ n) (l Bn Bf n₀ N f : Nat) (hN : N ≤ 16) (hf : f < N) (h1 : Bn < n₀) (h2 : Bf < n₀) (J Jx : List Nat → World → Prop)
    (hY : ∀ pre x W, J pre W → pre.length < (Mask.roundOf f N).length → YieldAt Fence.wide (n - 1) Tryz.prog l #[.int .i64 (x : Nat)] W fun e W' =>
      (e = .returned (.bool true) ∧ J (pre ++ [x]) W' ∧ Below n₀ W W') ∨ (e = .returned (.bool false) ∧ Jx (pre ++ [x]) W'))
    (W : World) (hcn : W.cell? ⟨Bn, 0, none⟩ = some (.int .i64 (N : Nat))) (hcf : W.cell? ⟨Bf, 0, none⟩ = some (.int .i64 (f : Nat))) (h0 : J [] W) :
    CallsIn Fence.wide n Tryz.prog 253 #[.func (.yield l) #[] #[], .pointer (some ⟨Bn, 0, none⟩), .pointer (some ⟨Bf, 0, none⟩)] W fun e W' => (∃ v, e = .returned v) ∧
      ((∃ ys, ys = Mask.roundOf f N ∧ J ys W') ∨ (∃ pre, pre <+: Mask.roundOf f N ∧ Jx pre W')) := by
  refine callsIn_of_wp Tryz.func253 rfl trivial ?_ rfl
  simp only [Tryz.ntmps253, List.size_toArray, List.length_cons, List.length_nil, Nat.reduceAdd, Nat.reduceSub, Array.replicate_succ, Array.replicate_zero, List.push_toArray, List.append_toArray, List.nil_append, List.cons_append]
  gi_wp2
  gi_loopw [6] (fun v wr => ∃ k : Nat, k ≤ N ∧ v = .int .i64 (k : Nat) ∧ wr.cell? ⟨Bn, 0, none⟩ = some (.int .i64 (N : Nat)) ∧ wr.cell? ⟨Bf, 0, none⟩ = some (.int .i64 (f : Nat)) ∧ J ((Mask.roundOf f N).take k) wr)
    (fun v _ => N - (intOf v).toNat)
  case atStart => exact ⟨0, Nat.zero_le _, rfl, hcn, hcf, h0⟩
  case round =>
    obtain ⟨k, hk, rfl, hn', hf', hJs⟩ := hrel
    clear hcn hcf
    by_cases hkN : k < N
    · obtain ⟨x, hx⟩ : ∃ x, (f + k) % N = x := ⟨_, rfl⟩
      have e1 : ((f : Int) + (k : Int)) % (N : Int) = (x : Nat) := by rw [← hx]; simp
      have e3 := round_take (f := f) hkN
      rw [hx] at e3
      have HE : Hid ((Mask.roundOf f N).take (k + 1) = (Mask.roundOf f N).take k ++ [x]) := e3
      have e4 : (N : Int) ≠ 0 := by omega
      obtain ⟨fn, tmps, assign, body, hy, hR⟩ := hY _ x wr hJs (by rw [List.length_take, Mask.round_len]; omega)
      clear hx e3
      gi_wp2
      refine hR.mono ?_
      rintro e W3 (⟨rfl, hJ3, hk3⟩ | ⟨rfl, hJx3⟩)
      · gi_wp2
        go_roundw
        case rel => exact ⟨k + 1, by omega, by go_num, (hk3.cell (p := ⟨Bn, 0, none⟩) h1).trans hn', (hk3.cell (p := ⟨Bf, 0, none⟩) h2).trans hf', by rw [HE.out]; exact hJ3⟩
        case measure => simp [intOf]; omega
      · gi_wp2
        refine bodyPost_ret (results_none rfl _ _ _) rfl ?_
        exact ⟨⟨_, rfl⟩, .inr ⟨_, HE.out ▸ List.take_prefix _ _, hJx3⟩⟩
    · obtain rfl : k = N := by omega
      rw [List.take_of_length_le (by rw [Mask.round_len]; exact Nat.le_refl _)] at hJs
      gi_wp2
      go_end0
      exact ⟨⟨_, rfl⟩, .inl ⟨_, rfl, hJs⟩⟩
theorem round_in (n : Nat) (f N : Int) (w : World) :
    CallsIn Fence.wide n Tryz.prog 244 #[.int .i64 f, .int .i64 N] w fun e w' => e = .returned (.func (.func 253) #[] #[.pointer (some ⟨w.heap.size + 1, 0, none⟩), .pointer (some ⟨w.heap.size, 0, none⟩)]) ∧ w' = (w.alloc (.cells #[.int .i64 f] 3)).alloc (.cells #[.int .i64 N] 3) := by
  refine callsIn_of_wp Tryz.func244 rfl trivial ?_ rfl
  simp only [Tryz.ntmps244, List.size_toArray, List.length_cons, List.length_nil, Nat.reduceAdd, Nat.reduceSub, Array.replicate_succ, Array.replicate_zero, List.push_toArray, List.append_toArray, List.nil_append, List.cons_append]
  gi_wp2
  go_ret
  exact ⟨rfl, rfl⟩
theorem round_stops (n : Nat) (hn : 1 ≤ n) (Bn Bf n₀ N f : Nat) (hN : N ≤ 16) (hf : f < N) (h1 : Bn < n₀) (h2 : Bf < n₀) (w : World) (hn₁ : n₀ ≤ w.heap.size)
    (hcn : w.cell? ⟨Bn, 0, none⟩ = some (.int .i64 (N : Nat))) (hcf : w.cell? ⟨Bf, 0, none⟩ = some (.int .i64 (f : Nat))) :
    SeqStopsK Fence.wide n Tryz.prog 253 #[.pointer (some ⟨Bn, 0, none⟩), .pointer (some ⟨Bf, 0, none⟩)] (fun x : Nat => #[Value.int .i64 (x : Nat)]) (Below n₀) (fun ys => ys = Mask.roundOf f N) (fun pre => pre <+: Mask.roundOf f N) (Mask.roundOf f N).length w := fun l J Jx W hW _ _ hY h0 =>
  round1_in n hn l Bn Bf n₀ N f hN hf h1 h2 J Jx hY W ((hW.cell (p := ⟨Bn, 0, none⟩) (Nat.lt_of_lt_of_le h1 hn₁)).trans hcn) ((hW.cell (p := ⟨Bf, 0, none⟩) (Nat.lt_of_lt_of_le h2 hn₁)).trans hcf) h0
end Go.Proofs.YtniicgbkeifnjaaGreatDoor.M
namespace Go.Proofs.YtniicgbkeifnjaaGreatDoor.M
open Go.ChangeShapes Go.WideShapes Go.ChangeAt Go.RowKit Go.Shelf
set_option linter.unusedVariables false
set_option maxRecDepth 100000
attribute [local go_sem] Oper.semAt_some
theorem newCell (W : World) (v : Value) (t : TypeId) : (W.alloc (.cells #[v] t)).cell? ⟨W.heap.size, 0, none⟩ = some v ∧ (W.alloc (.cells #[v] t)).frozen? ⟨W.heap.size, 0, none⟩ = false :=
  ⟨(Boxed.new W t v).cell, (Boxed.new W t v).frozen⟩
theorem cellOn {W : World} {a : Addr} {v : Value} (o : Obj) (h : W.cell? a = some v) : (W.alloc o).cell? a = some v := by
  refine cell_kept h (World.grownBy_alloc W o none) ?_
  intro r e
  cases e
theorem frozenOn {W : World} {a : Addr} {v : Value} (o : Obj) (h : W.cell? a = some v) (hf : W.frozen? a = false) : (W.alloc o).frozen? a = false := by
  refine (frozen_kept h (World.grownBy_alloc W o none) ?_).trans hf
  intro r e
  cases e
theorem hasB_all {m x : Nat} (hm : m < 65536) : hasB m (x : Nat) = m.testBit x := by
  by_cases h : x < 16
  · exact hasB_nat h
  · rw [hasB_out (.inr (by omega))]
    cases hb : m.testBit x with
    | false => rfl
    | true => exact absurd (Mask.bit_lt hm hb) h
theorem pick_all {m f n : Nat} (h : ∀ y ∈ Mask.roundOf f n, m.testBit y = false) : Mask.pick m f n = -1 := by
  unfold Mask.pick
  have : (Mask.roundOf f n).find? (fun i => m.testBit i) = none := by
    rw [List.find?_eq_none]
    intro x hx
    rw [h x hx]
    simp
  rw [this]
theorem pick_at {m f n x : Nat} {pre : List Nat} (hp : pre ++ [x] <+: Mask.roundOf f n) (h : ∀ y ∈ pre, m.testBit y = false) (hx : m.testBit x = true) : Mask.pick m f n = (x : Nat) := by
  unfold Mask.pick
  obtain ⟨t, ht⟩ := hp
  have e1 : pre.find? (fun i => m.testBit i) = none := by
    rw [List.find?_eq_none]
    intro x hx
    rw [h x hx]
    simp
  rw [← ht, List.find?_append, List.find?_append, e1]
  simp [hx]
set_option maxRecDepth 100000 in
set_option maxHeartbeats 2000000 in
theorem pick_in (m : Nat) (hm : m < 65536) (f n : Nat) (hn : n ≤ 16) (hf : f < n) (w : World) :
    Calls Tryz.prog 212 #[.int .u16 (m : Nat), .int .i64 (f : Nat), .int .i64 (n : Nat)] w fun e W' => e = .returned (.int .i64 (Mask.pick m f n)) ∧ Below w.heap.size w W' := by
  refine (callsIn_wide (n := 3)).1 ?_
  refine callsIn_of_wp_marks Tryz.func212 rfl trivial ?_ rfl
  simp only [Tryz.ntmps212, List.size_toArray, List.length_cons, List.length_nil, Nat.reduceAdd, Nat.reduceSub, Array.replicate_succ, Array.replicate_zero, List.push_toArray, List.append_toArray, List.nil_append, List.cons_append]
  have d1 : decide (1 ≤ (n : Int) ∧ (n : Int) ≤ 16) = true := decide_eq_true (by omega)
  have d3 : decide ((f : Int) < 0) = false := decide_eq_false (by omega)
  have d4 : decide (n ≤ f) = false := decide_eq_false (by omega)
  gi_wp2_with (first | (refine ⟨trivial, ?_⟩; gi_at_call 209; refine (callsIn_wide.2 (isSize_any _ _)).mono ?_; rintro e w' ⟨rfl, hq⟩; obtain rfl := hq.symm) | (refine ⟨trivial, ?_⟩; gi_at_call 244; refine (round_in (3 - 1) _ _ _).mono ?_; rintro e w' ⟨rfl, rfl⟩))
  clear hq
  have c0 := newCell w (.int .u16 (m : Nat)) 28
  have c1 := newCell (w.alloc (.cells #[.int .u16 (m : Nat)] 28)) (.int .i64 0) 3
  have c2 := newCell ((w.alloc (.cells #[.int .u16 (m : Nat)] 28)).alloc (.cells #[.int .i64 0] 3)) (.int .i64 (f : Nat)) 3
  have c3 := newCell (((w.alloc (.cells #[.int .u16 (m : Nat)] 28)).alloc (.cells #[.int .i64 0] 3)).alloc (.cells #[.int .i64 (f : Nat)] 3)) (.int .i64 (n : Nat)) 3
  simp only [World.size_alloc] at c1 c2 c3
  have k0 := cellOn (.cells #[.int .i64 (n : Nat)] 3) (cellOn (.cells #[.int .i64 (f : Nat)] 3) (cellOn (.cells #[.int .i64 0] 3) c0.1))
  have k1 := cellOn (.cells #[.int .i64 (n : Nat)] 3) (cellOn (.cells #[.int .i64 (f : Nat)] 3) c1.1)
  have f1 := frozenOn (.cells #[.int .i64 (n : Nat)] 3) (cellOn (.cells #[.int .i64 (f : Nat)] 3) c1.1) (frozenOn (.cells #[.int .i64 (f : Nat)] 3) c1.1 c1.2)
  have k2 := cellOn (.cells #[.int .i64 (n : Nat)] 3) c2.1
  have k3 := c3.1
  have hB0 : Below w.heap.size w ((((w.alloc (.cells #[.int .u16 (m : Nat)] 28)).alloc (.cells #[.int .i64 0] 3)).alloc (.cells #[.int .i64 (f : Nat)] 3)).alloc (.cells #[.int .i64 (n : Nat)] 3)) := ((((Below.refl _ w).alloc (Nat.le_refl _) _).alloc (by simp) _).alloc (by simp; omega) _).alloc (by simp; omega) _
  have hsz : ((((w.alloc (.cells #[.int .u16 (m : Nat)] 28)).alloc (.cells #[.int .i64 0] 3)).alloc (.cells #[.int .i64 (f : Nat)] 3)).alloc (.cells #[.int .i64 (n : Nat)] 3)).heap.size = w.heap.size + 4 := by simp
  clear c0 c1 c2 c3
  generalize ((((w.alloc (.cells #[.int .u16 (m : Nat)] 28)).alloc (.cells #[.int .i64 0] 3)).alloc (.cells #[.int .i64 (f : Nat)] 3)).alloc (.cells #[.int .i64 (n : Nat)] 3)) = U at k0 k1 f1 k2 k3 hB0 hsz ⊢
  refine wpIn_rangeFunc_ownF rfl (by decide) (gf := 253) (lb := #[.pointer (some ⟨w.heap.size + 1 + 1 + 1, 0, none⟩), .pointer (some ⟨w.heap.size + 1 + 1, 0, none⟩)]) rfl trivial (enters_of Tryz.func253 (by kernel_rfl) rfl)
    (round_stops (3 - 1) (by decide) (w.heap.size + 1 + 1 + 1) (w.heap.size + 1 + 1) U.heap.size n f hn hf (by omega) (by omega) U (Nat.le_refl _) k3 k2) belowK_t (belowK_b (Nat.le_refl _)) (Below.refl _ _) (fun _ => rfl)
    (fun pre W => ((∀ y ∈ pre, m.testBit y = false) ∧ W.cell? ⟨w.heap.size, 0, none⟩ = some (.int .u16 (m : Nat)) ∧ W.cell? ⟨w.heap.size + 1, 0, none⟩ = some (.int .i64 0) ∧ W.frozen? ⟨w.heap.size + 1, 0, none⟩ = false) ∧ Below w.heap.size w W)
    (fun c pre W => (c = .ret ∧ (∃ q x, pre = q ++ [x] ∧ (∀ y ∈ q, m.testBit y = false) ∧ m.testBit x = true ∧ W.cell? ⟨w.heap.size + 1, 0, none⟩ = some (.int .i64 (x : Nat)))) ∧ Below w.heap.size w W)
    (OwnFrom.and (Own.from (fun s A B row hs hg hr => ⟨hs.1, cell_kept hs.2.1 hg hr, cell_kept hs.2.2.1 hg hr, (frozen_kept hs.2.2.1 hg hr).trans hs.2.2.2⟩) _) (ownFrom_below (Nat.le_refl _) (by omega)))
    (fun c => OwnFrom.and (Own.from (fun s A B row hs hg hr => by obtain ⟨h1, q, x, h2, h3, h4, h5⟩ := hs; exact ⟨h1, q, x, h2, h3, h4, cell_kept h5 hg hr⟩) _) (ownFrom_below (Nat.le_refl _) (by omega)))
    ⟨⟨by simp, k0, k1, f1⟩, hB0⟩
    (fun x => { tmps := #[.int .u16 (m : Nat), .int .i64 (f : Nat), .int .i64 (n : Nat), .pointer (some ⟨w.heap.size, 0, none⟩), undef, undef, .pointer (some ⟨w.heap.size + 1, 0, none⟩), .int .i64 (x : Nat), .int .i64 (n : Nat), .bool true, .bool false, .bool false, .int .i64 (f : Nat), .bool false, .bool false, .bool false, .int .i64 (f : Nat), .int .i64 (n : Nat), .bool false, .bool false, .int .i64 (f : Nat), .int .i64 (n : Nat), .func (.func 253) #[] #[.pointer (some ⟨w.heap.size + 1 + 1 + 1, 0, none⟩), .pointer (some ⟨w.heap.size + 1 + 1, 0, none⟩)], .int .i64 (x : Nat), undef, undef, undef, undef], defers := [] }) ?assign ?body ?done ?stop
  case assign =>
    intro l x W K hK
    gi_wp2
    exact hK
  case body =>
    rintro l pre x W ⟨⟨hp, hcm, hcr, hfr⟩, hB⟩ _
    have hx := hasB_all (x := x) hm
    obtain ⟨b, hb⟩ : ∃ b, m.testBit x = b := ⟨_, rfl⟩
    rw [hb] at hx
    have HX : Hid (m.testBit x = b) := hb
    clear hb d1 d3 d4
    cases b with
    | true =>
      gi_wp2_with (refine ⟨trivial, ?_⟩; gi_at_call 245; refine (CallsIn.inRound l (callsIn_wide.2 (has_any m hm _ _))).mono ?_; rintro e w' ⟨rfl, hq⟩; obtain rfl := hq.symm)
      exact ⟨KeepsOthers.setCell _ _ _, ⟨rfl, pre, x, rfl, hp, HX.out, World.cell?_setCell_same' _ _ _ (by rw [hcr]; rfl)⟩, hB.setCell (p := ⟨w.heap.size + 1, 0, none⟩) (by simp) _⟩
    | false =>
      gi_wp2_with (refine ⟨trivial, ?_⟩; gi_at_call 245; refine (CallsIn.inRound l (callsIn_wide.2 (has_any m hm _ _))).mono ?_; rintro e w' ⟨rfl, hq⟩; obtain rfl := hq.symm)
      exact ⟨KeepsOthers.refl _, Below.refl _ _, ⟨fun y hy => (List.mem_append.1 hy).elim (hp y) (fun e => by simp at e; subst e; exact HX.out), hcm, hcr, hfr⟩, hB⟩
  case done =>
    rintro D ys W hD rfl ⟨⟨hne, _, hcr, hfr⟩, hB⟩ hK
    gi_wp2
    have hK' := (KeepsOthers.setCell W ⟨w.heap.size + 1, 0, none⟩ (.int .i64 (-1))).same D _ hK rfl
    refine ⟨by simp, .inl ⟨_, _, rfl, run_takeDeferred hK', ?_⟩⟩
    have hc5 := cell_kept (World.cell?_setCell_same' W ⟨w.heap.size + 1, 0, none⟩ (.int .i64 (-1)) (by rw [hcr]; rfl)) (grownBy_putObj' _ D (.deferred none)) (fun r e => by cases e; exact ⟨_, hK', rfl⟩)
    refine ⟨.int .i64 (-1), ?_, by rw [pick_all hne], (hB.setCell (p := ⟨w.heap.size + 1, 0, none⟩) (by simp) _).trans (belowK_b (w := w) (Nat.le_refl _) _ D _ _ (by omega) hK' rfl rfl)⟩
    simp [results, Tryz.f212, go_sem, hc5]
  case stop =>
    rintro D c pre W hD hpre ⟨⟨rfl, q, x, rfl, hq, hx, hcr⟩, hB⟩ hK
    gi_wp2
    refine ⟨by simp, .inl ⟨_, _, rfl, run_takeDeferred hK, ?_⟩⟩
    have hc5 := cell_kept hcr (grownBy_putObj' _ D (.deferred none)) (fun r e => by cases e; exact ⟨_, hK, rfl⟩)
    refine ⟨.int .i64 (x : Nat), ?_, by rw [pick_at hpre hq hx], hB.trans (belowK_b (w := w) (Nat.le_refl _) W D _ _ (by omega) hK rfl rfl)⟩
    simp [results, Tryz.f212, go_sem, hc5]
set_option maxRecDepth 100000 in
set_option maxHeartbeats 1000000 in
theorem pick_no (m : Nat) (hm : m < 65536) (f n : Int) (h : ¬ (1 ≤ n ∧ n ≤ 16 ∧ 0 ≤ f ∧ f < n)) (w : World) :
    Calls Tryz.prog 212 #[.int .u16 (m : Nat), .int .i64 f, .int .i64 n] w fun e W' => e = .returned (.int .i64 (-1)) ∧ Below w.heap.size w W' := by
  have hB0 : Below w.heap.size w ((w.alloc (.cells #[.int .u16 (m : Nat)] 28)).alloc (.cells #[.int .i64 (-1)] 3)) := ((Below.refl _ w).alloc (Nat.le_refl _) _).alloc (by simp) _
  have HB : Hid (Below w.heap.size w ((w.alloc (.cells #[.int .u16 (m : Nat)] 28)).alloc (.cells #[.int .i64 (-1)] 3))) := hB0
  clear hB0
  by_cases h1 : 1 ≤ n ∧ n ≤ 16
  · have d1 : decide (1 ≤ n ∧ n ≤ 16) = true := decide_eq_true h1
    by_cases h3 : f < 0
    · have d3 : decide (f < 0) = true := decide_eq_true h3
      go_enter Tryz.func212, Tryz.ntmps212
      go_wp2_with (go_at_call 209; refine (isSize_any _ _).mono ?_; rintro e w' ⟨rfl, hq⟩; obtain rfl := hq.symm)
      refine bodyPost_ret (v := .int .i64 (-1)) (by simp [results, Tryz.f212, go_sem]) rfl ?_
      exact ⟨rfl, HB.out⟩
    · have h4 : n ≤ f := by omega
      have d3 : decide (f < 0) = false := decide_eq_false h3
      have d4 : decide (n ≤ f) = true := decide_eq_true h4
      go_enter Tryz.func212, Tryz.ntmps212
      go_wp2_with (go_at_call 209; refine (isSize_any _ _).mono ?_; rintro e w' ⟨rfl, hq⟩; obtain rfl := hq.symm)
      refine bodyPost_ret (v := .int .i64 (-1)) (by simp [results, Tryz.f212, go_sem]) rfl ?_
      exact ⟨rfl, HB.out⟩
  · have d1 : decide (1 ≤ n ∧ n ≤ 16) = false := decide_eq_false h1
    go_enter Tryz.func212, Tryz.ntmps212
    go_wp2_with (go_at_call 209; refine (isSize_any _ _).mono ?_; rintro e w' ⟨rfl, hq⟩; obtain rfl := hq.symm)
    refine bodyPost_ret (v := .int .i64 (-1)) (by simp [results, Tryz.f212, go_sem]) rfl ?_
    exact ⟨rfl, HB.out⟩
theorem pick_any (m : Nat) (hm : m < 65536) (f n : Int) (w : World) :
    Calls Tryz.prog 212 #[.int .u16 (m : Nat), .int .i64 f, .int .i64 n] w fun e W' => e = .returned (.int .i64 (pickV m f n)) ∧ Below w.heap.size w W' := by
  by_cases h : 1 ≤ n ∧ n ≤ 16 ∧ 0 ≤ f ∧ f < n
  · obtain ⟨h1, h2, h3, h4⟩ := h
    obtain ⟨n, rfl⟩ := Int.eq_ofNat_of_zero_le (show 0 ≤ n by omega)
    obtain ⟨f, rfl⟩ := Int.eq_ofNat_of_zero_le h3
    rw [pickV_in (by omega) (by omega)]
    exact pick_in m hm f n (by omega) (by omega) w
  · rw [pickV_out h]
    exact pick_no m hm f n h w
end Go.Proofs.YtniicgbkeifnjaaGreatDoor.M
namespace Go.Proofs.YtniicgbkeifnjaaGreatDoor.M
open Go.ChangeShapes Go.WideShapes Go.ChangeAt Go.RowKit
set_option linter.unusedVariables false
set_option maxRecDepth 100000
def Cols (W : World) (g n : Nat) (f : Nat → Nat) : Prop := ∀ k, k < n → W.cell? ⟨g, k, none⟩ = some (.int .u16 (f k : Nat)) ∧ W.frozen? ⟨g, k, none⟩ = false
theorem Cols.congr {W : World} {g n : Nat} {f h : Nat → Nat} (c : Cols W g n f) (e : ∀ k, k < n → f k = h k) : Cols W g n h := fun k hk => by
  rw [← e k hk]
  exact c k hk
theorem Cols.set {W : World} {g n k v : Nat} {f : Nat → Nat} (c : Cols W g n f) (hk : k < n) : Cols (W.setCell ⟨g, k, none⟩ (.int .u16 (v : Nat))) g n (fun j => if j = k then v else f j) := fun j hj => by
  refine ⟨?_, by rw [World.frozen?_setCell]; exact (c j hj).2⟩
  show _ = some (Value.int .u16 ((if j = k then v else f j : Nat) : Int))
  by_cases e : j = k
  · subst e
    rw [if_pos rfl]
    exact World.cell?_setCell_same _ _ _ (c j hj).1
  · rw [if_neg e, World.cell?_setCell_other _ _ _ _ (fun h => e (by cases h; rfl))]
    exact (c j hj).1
theorem Cols.made (w : World) (n : Nat) : Cols (w.alloc (.cells (madeCells #[.int .u16 0] n) 28)) w.heap.size n (fun _ => 0) := fun k hk => by
  have hb := World.alloc_heap_new w (.cells (madeCells #[.int .u16 0] n) 28)
  constructor
  · unfold World.cell?
    dsimp only
    rw [hb]
    simp [madeCells, hk, Nat.mod_one]
  · unfold World.frozen?
    dsimp only
    rw [hb]
    simp
theorem Cols.below {W W' : World} {g n : Nat} {f : Nat → Nat} (c : Cols W g n f) (k : Below W.heap.size W W') : Cols W' g n f := fun j hj => by
  have hlt : g < W.heap.size := cell_lt (c j hj).1
  exact ⟨(k.cell (p := ⟨g, j, none⟩) hlt).trans (c j hj).1, (k.frozen (p := ⟨g, j, none⟩) hlt).trans (c j hj).2⟩
theorem Cols.nums {W : World} {g n : Nat} {f : Nat → Nat} (c : Cols W g n f) (hn : n ≤ 16) {l : List Nat} (hl : l.length = n) (e : ∀ k, k < n → f k = l.getD k 0) : Nums .u16 W (some ⟨g, 0, none⟩) n l := by
  refine ⟨hl, by unfold maxLen; omega, ?_⟩
  rcases Nat.eq_zero_or_pos n with h0 | h0
  · exact .inl h0
  · refine .inr ⟨g, 0, rfl, cell_lt (c 0 h0).1, fun i hi => ?_⟩
    rw [Nat.zero_add, ← e i hi]
    exact (c i hi).1
def done (rows : List Nat) (M k j : Nat) : Nat → Nat := fun x => if x < k then Mask.col rows x M else if x = k then Mask.col rows k j else 0
end Go.Proofs.YtniicgbkeifnjaaGreatDoor.M
