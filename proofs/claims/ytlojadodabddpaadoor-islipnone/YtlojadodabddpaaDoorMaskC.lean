/-
  The iterators of package mask: those that are in a mask, rising; the numbers from some place on, and round. Conditions: that the table of math/bits holds what its initialiser lays.
-/
import Derived.Test.YtlojadodabddpaaDoorMaskB
import Derived.RangeFuncNested
import Derived.RangeFuncBound
import Derived.RangeFuncCalls
import Derived.RangeFuncLeaves
import Derived.Shelf.Abstract
import Derived.Shelf.RegionOpen
import Derived.OwnWalkIn
import Derived.TacticsInMore
import Derived.LoopNIn
import Derived.LoopIn
namespace Go.Proofs.YtlojadodabddpaaDoor
open Go.ChangeShapes Go.WideShapes Go.ChangeAt Go.RowKit Go.Shelf
set_option linter.unusedVariables false
attribute [local go_sem] Oper.semAt_some

theorem bits_step {m left i q : Nat} {pre : List Nat} (he : left = 2 ^ i * (2 * q + 1)) (hl : left < 65536) (h : Mask.bitsOf m = pre ++ Mask.bitsOf left) : Mask.bitsOf m = (pre ++ [i]) ++ Mask.bitsOf (left &&& (left - 1)) := by
  subst he
  rw [h, Mask.bits_cons hl]
  simp

set_option maxRecDepth 100000 in
set_option maxHeartbeats 1000000 in
theorem each1_in (n : Nat) (hn : 1 ≤ n) (l Bn n₀ m : Nat) (hm : m < 65536) (hn₀ : 0 < n₀) (J Jx : List Nat → World → Prop)
    (hY : ∀ pre x W, J pre W → pre.length < (Mask.bitsOf m).length → YieldAt Fence.wide (n - 1) Tryd.prog l #[.int .i64 (x : Nat)] W fun e W' =>
      (e = .returned (.bool true) ∧ J (pre ++ [x]) W' ∧ Below n₀ W W') ∨ (e = .returned (.bool false) ∧ Jx (pre ++ [x]) W'))
    (W : World) (hBn : W.cell? ⟨Bn, 0, none⟩ = some (.int .u16 (m : Nat))) (hT : Tab W) (h0 : J [] W) :
    CallsIn Fence.wide n Tryd.prog 38 #[.func (.yield l) #[] #[], .pointer (some ⟨Bn, 0, none⟩)] W fun e W' => (∃ v, e = .returned v) ∧
      ((∃ ys, ys = Mask.bitsOf m ∧ J ys W') ∨ (∃ pre, pre <+: Mask.bitsOf m ∧ Jx pre W')) := by
  have HT : Hid (Tab W) := hT
  clear hT
  refine callsIn_of_wp Tryd.func38 rfl trivial ?_ rfl
  simp only [Tryd.ntmps38, List.size_toArray, List.length_cons, List.length_nil, Nat.reduceAdd, Nat.reduceSub, Array.replicate_succ, Array.replicate_zero, List.push_toArray, List.append_toArray, List.nil_append, List.cons_append]
  gi_wp2
  gi_loopw [3] (fun v wr => ∃ (pre : List Nat) (left : Nat), v = .int .u16 (left : Nat) ∧ left < 65536 ∧ Mask.bitsOf m = pre ++ Mask.bitsOf left ∧ Tab wr ∧ J pre wr)
    (fun v _ => (intOf v).toNat)
  case atStart => exact ⟨[], m, rfl, hm, rfl, HT.out, h0⟩
  case round =>
    obtain ⟨pre, left, rfl, hl, hx, hT, hJs⟩ := hrel
    by_cases hz : left = 0
    · subst hz
      rw [Mask.bits_zero, List.append_nil] at hx
      gi_wp2
      go_end0
      exact ⟨⟨_, rfl⟩, .inl ⟨pre, hx.symm, hJs⟩⟩
    · obtain ⟨i, q, he⟩ := Mask.lowest left hz
      have hx2 := bits_step he hl hx
      have e1 : ((left : Int) == 0) = false := by simp; omega
      have e2 : bits .and .u16 (left : Int) ((left : Int) - 1) = ((left &&& (left - 1) : Nat) : Int) := by
        rw [show (left : Int) - 1 = ((left - 1 : Nat) : Int) by omega]; exact u16_and_nat _ _ hl (by omega)
      have hlt : left &&& (left - 1) < left := Nat.lt_of_le_of_lt Nat.and_le_right (by omega)
      have HE : Hid (left = 2 ^ i * (2 * q + 1)) := he
      have HX : Hid (Mask.bitsOf m = (pre ++ [i]) ++ Mask.bitsOf (left &&& (left - 1))) := hx2
      obtain ⟨fn, tmps, assign, body, hy, hR⟩ := hY pre i wr hJs (by rw [hx2]; simp)
      have HTr : Hid (Tab wr) := hT
      have h1 : 1 ≤ (left : Int) := by omega
      clear he hx hx2 hT hz
      gi_wp2_with (refine ⟨trivial, ?_⟩; gi_at_call 39; refine (callsIn_wide.2 (ctz_any left i q HE.out hl _ HTr.out)).mono ?_; rintro e w' ⟨rfl, hq⟩; obtain rfl := hq.symm)
      refine hR.mono ?_
      rintro e W3 (⟨rfl, hJ3, hk3⟩ | ⟨rfl, hJx3⟩)
      · gi_wp2
        go_roundw
        case rel => exact ⟨pre ++ [i], left &&& (left - 1), by first | rfl | (rw [← e2]), by omega, HX.out, HTr.out.below hk3 hn₀, hJ3⟩
        case measure => simp [intOf]; omega
      · gi_wp2
        refine bodyPost_ret (results_none rfl _ _ _) rfl ?_
        exact ⟨⟨_, rfl⟩, .inr ⟨pre ++ [i], ⟨_, HX.out.symm⟩, hJx3⟩⟩

theorem each_in (n : Nat) (m : Nat) (w : World) :
    CallsIn Fence.wide n Tryd.prog 32 #[.int .u16 (m : Nat)] w fun e w' => e = .returned (.func (.func 38) #[] #[.pointer (some ⟨w.heap.size, 0, none⟩)]) ∧ w' = w.alloc (.cells #[.int .u16 (m : Nat)] 29) := by
  refine callsIn_of_wp Tryd.func32 rfl trivial ?_ rfl
  simp only [Tryd.ntmps32, List.size_toArray, List.length_cons, List.length_nil, Nat.reduceAdd, Nat.reduceSub, Array.replicate_succ, Array.replicate_zero, List.push_toArray, List.append_toArray, List.nil_append, List.cons_append]
  gi_wp2
  go_ret
  exact ⟨rfl, rfl⟩

/-- those that are in m, rising -/
theorem each_stops (n : Nat) (hn : 1 ≤ n) (Bn n₀ m : Nat) (hm : m < 65536) (hn₀ : 0 < n₀) (w : World) (hBn : Bn < w.heap.size) (hn₁ : n₀ ≤ w.heap.size)
    (hc : w.cell? ⟨Bn, 0, none⟩ = some (.int .u16 (m : Nat))) (hT : Tab w) :
    SeqStopsK Fence.wide n Tryd.prog 38 #[.pointer (some ⟨Bn, 0, none⟩)] (fun x : Nat => #[Value.int .i64 (x : Nat)]) (Below n₀) (fun ys => ys = Mask.bitsOf m) (fun pre => pre <+: Mask.bitsOf m) (Mask.bitsOf m).length w := fun l J Jx W hW _ _ hY h0 =>
  each1_in n hn l Bn n₀ m hm hn₀ J Jx hY W ((hW.cell (p := ⟨Bn, 0, none⟩) hBn).trans hc) (hT.below hW (Nat.lt_of_lt_of_le hn₀ hn₁)) h0

theorem round_take {f n k : Nat} (h : k < n) : (Mask.roundOf f n).take (k + 1) = (Mask.roundOf f n).take k ++ [(f + k) % n] := by
  rw [List.take_succ_eq_append_getElem (by rw [Mask.round_len]; exact h)]
  simp [Mask.roundOf]

set_option maxRecDepth 100000 in
set_option maxHeartbeats 1000000 in
theorem round1_in (n : Nat) (hn : 1 ≤ n) (l Bn Bf n₀ N f : Nat) (hN : N ≤ 16) (hf : f < N) (h1 : Bn < n₀) (h2 : Bf < n₀) (J Jx : List Nat → World → Prop)
    (hY : ∀ pre x W, J pre W → pre.length < (Mask.roundOf f N).length → YieldAt Fence.wide (n - 1) Tryd.prog l #[.int .i64 (x : Nat)] W fun e W' =>
      (e = .returned (.bool true) ∧ J (pre ++ [x]) W' ∧ Below n₀ W W') ∨ (e = .returned (.bool false) ∧ Jx (pre ++ [x]) W'))
    (W : World) (hcn : W.cell? ⟨Bn, 0, none⟩ = some (.int .i64 (N : Nat))) (hcf : W.cell? ⟨Bf, 0, none⟩ = some (.int .i64 (f : Nat))) (h0 : J [] W) :
    CallsIn Fence.wide n Tryd.prog 44 #[.func (.yield l) #[] #[], .pointer (some ⟨Bn, 0, none⟩), .pointer (some ⟨Bf, 0, none⟩)] W fun e W' => (∃ v, e = .returned v) ∧
      ((∃ ys, ys = Mask.roundOf f N ∧ J ys W') ∨ (∃ pre, pre <+: Mask.roundOf f N ∧ Jx pre W')) := by
  refine callsIn_of_wp Tryd.func44 rfl trivial ?_ rfl
  simp only [Tryd.ntmps44, List.size_toArray, List.length_cons, List.length_nil, Nat.reduceAdd, Nat.reduceSub, Array.replicate_succ, Array.replicate_zero, List.push_toArray, List.append_toArray, List.nil_append, List.cons_append]
  gi_wp2
  gi_loopw [6] (fun v wr => ∃ k : Nat, k ≤ N ∧ v = .int .i64 (k : Nat) ∧ wr.cell? ⟨Bn, 0, none⟩ = some (.int .i64 (N : Nat)) ∧ wr.cell? ⟨Bf, 0, none⟩ = some (.int .i64 (f : Nat)) ∧ J ((Mask.roundOf f N).take k) wr)
    (fun v _ => N - (intOf v).toNat)
  case atStart => exact ⟨0, Nat.zero_le _, rfl, hcn, hcf, h0⟩
  case round =>
    obtain ⟨k, hk, rfl, hn', hf', hJs⟩ := hrel
    clear hcn hcf
    by_cases hkN : k < N
    · obtain ⟨x, hx⟩ : ∃ x, (f + k) % N = x := ⟨_, rfl⟩
      have e1 : ((f : Int) + (k : Int)) % (N : Int) = (x : Nat) := by rw [← hx]; simp
      have e3 := round_take (f := f) hkN
      rw [hx] at e3
      have HE : Hid ((Mask.roundOf f N).take (k + 1) = (Mask.roundOf f N).take k ++ [x]) := e3
      have e4 : (N : Int) ≠ 0 := by omega
      obtain ⟨fn, tmps, assign, body, hy, hR⟩ := hY _ x wr hJs (by rw [List.length_take, Mask.round_len]; omega)
      clear hx e3
      gi_wp2
      refine hR.mono ?_
      rintro e W3 (⟨rfl, hJ3, hk3⟩ | ⟨rfl, hJx3⟩)
      · gi_wp2
        go_roundw
        case rel => exact ⟨k + 1, by omega, by go_num, (hk3.cell (p := ⟨Bn, 0, none⟩) h1).trans hn', (hk3.cell (p := ⟨Bf, 0, none⟩) h2).trans hf', by rw [HE.out]; exact hJ3⟩
        case measure => simp [intOf]; omega
      · gi_wp2
        refine bodyPost_ret (results_none rfl _ _ _) rfl ?_
        exact ⟨⟨_, rfl⟩, .inr ⟨_, HE.out ▸ List.take_prefix _ _, hJx3⟩⟩
    · obtain rfl : k = N := by omega
      rw [List.take_of_length_le (by rw [Mask.round_len]; exact Nat.le_refl _)] at hJs
      gi_wp2
      go_end0
      exact ⟨⟨_, rfl⟩, .inl ⟨_, rfl, hJs⟩⟩

theorem round_in (n : Nat) (f N : Int) (w : World) :
    CallsIn Fence.wide n Tryd.prog 42 #[.int .i64 f, .int .i64 N] w fun e w' => e = .returned (.func (.func 44) #[] #[.pointer (some ⟨w.heap.size + 1, 0, none⟩), .pointer (some ⟨w.heap.size, 0, none⟩)]) ∧ w' = (w.alloc (.cells #[.int .i64 f] 3)).alloc (.cells #[.int .i64 N] 3) := by
  refine callsIn_of_wp Tryd.func42 rfl trivial ?_ rfl
  simp only [Tryd.ntmps42, List.size_toArray, List.length_cons, List.length_nil, Nat.reduceAdd, Nat.reduceSub, Array.replicate_succ, Array.replicate_zero, List.push_toArray, List.append_toArray, List.nil_append, List.cons_append]
  gi_wp2
  go_ret
  exact ⟨rfl, rfl⟩

/-- from, .., n - 1, 0, .., from - 1 -/
theorem round_stops (n : Nat) (hn : 1 ≤ n) (Bn Bf n₀ N f : Nat) (hN : N ≤ 16) (hf : f < N) (h1 : Bn < n₀) (h2 : Bf < n₀) (w : World) (hn₁ : n₀ ≤ w.heap.size)
    (hcn : w.cell? ⟨Bn, 0, none⟩ = some (.int .i64 (N : Nat))) (hcf : w.cell? ⟨Bf, 0, none⟩ = some (.int .i64 (f : Nat))) :
    SeqStopsK Fence.wide n Tryd.prog 44 #[.pointer (some ⟨Bn, 0, none⟩), .pointer (some ⟨Bf, 0, none⟩)] (fun x : Nat => #[Value.int .i64 (x : Nat)]) (Below n₀) (fun ys => ys = Mask.roundOf f N) (fun pre => pre <+: Mask.roundOf f N) (Mask.roundOf f N).length w := fun l J Jx W hW _ _ hY h0 =>
  round1_in n hn l Bn Bf n₀ N f hN hf h1 h2 J Jx hY W ((hW.cell (p := ⟨Bn, 0, none⟩) (Nat.lt_of_lt_of_le h1 hn₁)).trans hcn) ((hW.cell (p := ⟨Bf, 0, none⟩) (Nat.lt_of_lt_of_le h2 hn₁)).trans hcf) h0
end Go.Proofs.YtlojadodabddpaaDoor
