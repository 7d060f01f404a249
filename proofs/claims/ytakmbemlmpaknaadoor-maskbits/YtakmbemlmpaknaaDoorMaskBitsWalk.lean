/-
  The law MaskBits of package shunterlaw09: bits rise, there are as many as are counted, and they make the mask. Conditions: that the table of math/bits holds what its initialiser lays.
-/
import Derived.Test.YtakmbemlmpaknaaDoorMaskTurnedWalk
namespace Go.Proofs.YtakmbemlmpaknaaDoor
open Go.ChangeShapes Go.WideShapes Go.ChangeAt Go.RowKit
set_option linter.unusedVariables false

/-- the masks of one, summed -/
def psum (l : List Nat) : Nat := (l.map fun b => 2 ^ b).sum
theorem psum_snoc (l : List Nat) (b : Nat) : psum (l ++ [b]) = psum l + 2 ^ b := by simp [psum]
theorem psum_upto (m : Nat) : ∀ k, psum (upto m k) = m % 2 ^ k
  | 0 => by simp [upto, psum, Nat.mod_one]
  | k + 1 => by
    have ih := psum_upto m k
    have e := Nat.testBit_eq_decide_div_mod_eq (x := m) (i := k)
    cases hb : m.testBit k with
    | true =>
      rw [hb] at e
      have e2 : m / 2 ^ k % 2 = 1 := of_decide_eq_true e.symm
      rw [upto_hit hb, psum_snoc, ih, Nat.mod_pow_succ, e2, Nat.mul_one]
    | false =>
      rw [hb] at e
      have e2 : m / 2 ^ k % 2 = 0 := by have := of_decide_eq_false e.symm; omega
      rw [upto_miss hb, ih, Nat.mod_pow_succ, e2, Nat.mul_zero, Nat.add_zero]
theorem psum_bits {m : Nat} (hm : m < 65536) : psum (Mask.bitsOf m) = m := by
  rw [← upto_all, psum_upto, Nat.mod_eq_of_lt hm]
theorem psum_take {l : List Nat} {k : Nat} (h : k < l.length) : psum (l.take (k + 1)) = psum (l.take k) + 2 ^ (l.getD k 0) := by
  rw [List.take_succ_eq_append_getElem h, psum_snoc]
  simp [List.getD, h]
theorem psum_le (l : List Nat) (k : Nat) : psum (l.take k) ≤ psum l := by
  have : psum l = psum (l.take k) + psum (l.drop k) := by
    unfold psum
    rw [← List.sum_append, ← List.map_append, List.take_append_drop]
  omega
theorem bits_rise {m k : Nat} (h : k + 1 < (Mask.bitsOf m).length) : (Mask.bitsOf m).getD k 0 < (Mask.bitsOf m).getD (k + 1) 0 := by
  have hs := List.pairwise_iff_getElem.1 (Mask.bits_sorted m) k (k + 1) (by omega) h (by omega)
  simpa [List.getD, h, show k < (Mask.bitsOf m).length by omega] using hs
theorem bits_small {m k : Nat} (h : k < (Mask.bitsOf m).length) : (Mask.bitsOf m).getD k 0 < 16 := by
  have : (Mask.bitsOf m).getD k 0 = (Mask.bitsOf m)[k] := by simp [List.getD, h]
  rw [this]
  exact Mask.bits_lt (List.getElem_mem h)

set_option maxRecDepth 100000 in
set_option maxHeartbeats 1000000 in
theorem maskBits_any (w : World) (hT : Tab w) (m0 : Int) (wm : (Lit.int .u16 m0).wf = true) :
    Calls Tryd.prog 10 #[.int .u16 m0] w fun e w' => e = .returned (.bool true) ∧ Below w.heap.size w w' := by
  obtain ⟨m, rfl, hm⟩ := nat_u16 wm
  have HT : Hid (Tab w) := hT
  have h0 := hT.lt
  have hl16 := Mask.bits_len m
  obtain ⟨L, hL⟩ : ∃ L, (Mask.bitsOf m).length = L := ⟨_, rfl⟩
  have HL : Hid ((Mask.bitsOf m).length = L) := hL
  rw [hL] at hl16
  clear hT wm hL
  go_enter Tryd.func10, Tryd.ntmps10
  go_wp2_with fail
  refine (bits_any m hm _ HT.out).mono ?_
  rintro e w2 ⟨x2, c2, rfl, n2, b2⟩
  have B2 : Hid (Below w.heap.size w w2) := b2
  rw [HL.out] at n2
  rw [HL.out]
  have N2 : Hid (Nums .i64 w2 x2 L (Mask.bitsOf m)) := n2
  clear n2 b2
  go_wp2_with fail
  go_loopw [4, 5] (fun x v wr => ∃ i : Nat, i ≤ L ∧ v = .int .i64 i ∧ x = .int .u16 (psum ((Mask.bitsOf m).take i) : Nat) ∧ Below w2.heap.size w2 wr) (fun _ v _ => L - (intOf v).toNat)
  case atStart => exact ⟨0, Nat.zero_le _, rfl, rfl, Below.refl _ _⟩
  case round =>
    obtain ⟨i, hi, rfl, rfl, hB⟩ := hrel
    have HB : Hid (Below w2.heap.size w2 wr) := hB
    clear hB
    obtain ⟨s, hs⟩ : ∃ s, psum ((Mask.bitsOf m).take i) = s := ⟨_, rfl⟩
    have HS : Hid (psum ((Mask.bitsOf m).take i) = s) := hs
    have hsm : s ≤ m := by rw [← hs]; have h1 := psum_le (Mask.bitsOf m) i; rw [psum_bits hm] at h1; exact h1
    rw [hs]
    clear hs
    by_cases hil : i < L
    · obtain ⟨p, op, rfl, hx⟩ := (N2.out.below HB.out).at hil
      have hsmall := bits_small (m := m) (k := i) (by rw [HL.out]; exact hil)
      have hstep := psum_take (l := Mask.bitsOf m) (k := i) (by rw [HL.out]; exact hil)
      have hle := psum_le (Mask.bitsOf m) (i + 1)
      rw [psum_bits hm] at hle
      obtain ⟨x, hx2⟩ : ∃ x, (Mask.bitsOf m).getD i 0 = x := ⟨_, rfl⟩
      rw [hx2] at hx hsmall hstep
      rw [hstep, HS.out] at hle
      rw [HS.out] at hstep
      have HX : Hid ((Mask.bitsOf m).getD i 0 = x) := hx2
      obtain ⟨q, hq⟩ : ∃ q, 2 ^ x = q := ⟨_, rfl⟩
      rw [hq] at hle hstep
      have HQ : Hid (2 ^ x = q) := hq
      have HStep : Hid (psum ((Mask.bitsOf m).take (i + 1)) = s + q) := hstep
      clear hx2 hq hstep
      have e1 : decide ((x : Int) < 0) = false := decide_eq_false (by omega)
      have e2 : decide ((15 : Int) < (x : Int)) = false := decide_eq_false (by omega)
      have hne := Since.any wr
      have eq2 : ((2 : Int) ^ x) = (q : Nat) := by rw [← HQ.out]; simp
      cases i with
      | zero =>
        rw [Nat.add_zero] at hx
        have cx := fun n : Since wr => n.cell hx
        go_wp2_with fail
        refine region_since (u := wr) (by kernel_rfl) (by kernel_rfl) (Below.refl _ _) ?_
        repeat (go_big_quiet_step (fail))
        refine wpQuiet_nil ?_
        intro _ hw'
        obtain ⟨nq, hw''⟩ := hw'
        subst hw''
        have hx4 := cx nq
        clear cx
        go_wp2_with (go_at_call 25; refine (refBit_any x hsmall _).mono ?_; rintro e w' ⟨rfl, hq'⟩; obtain rfl := hq'.symm; clear hq')
        exact ⟨⟨1, by omega, by go_num, by have e : psum (List.take 1 (Mask.bitsOf m)) = s + q := HStep.out; rw [e, Int.natCast_add], later HB.out nq.h⟩, by simp [intOf]; omega⟩
      | succ i =>
        obtain ⟨y, hy2⟩ : ∃ y, (Mask.bitsOf m).getD i 0 = y := ⟨_, rfl⟩
        have hrise := bits_rise (m := m) (k := i) (by rw [HL.out]; exact hil)
        rw [HX.out, hy2] at hrise
        obtain ⟨p', op', he, hy⟩ := (N2.out.below HB.out).at (show i < L by omega)
        cases he
        rw [hy2] at hy
        have cx := fun n : Since wr => n.cell hx
        have cy := fun n : Since wr => n.cell hy
        have e5 : decide ((x : Int) ≤ (y : Int)) = false := decide_eq_false (by omega)
        have e6 : decide (x ≤ y) = false := decide_eq_false (by omega)
        clear hy2
        go_wp2_with fail
        refine region_since (u := wr) (by kernel_rfl) (by kernel_rfl) (Below.refl _ _) ?_
        repeat (go_big_quiet_step (fail))
        refine wpQuiet_nil ?_
        intro _ hw'
        obtain ⟨nq, hw''⟩ := hw'
        subst hw''
        have hx4 := cx nq
        clear cx cy
        go_wp2_with (go_at_call 25; refine (refBit_any x hsmall _).mono ?_; rintro e w' ⟨rfl, hq'⟩; obtain rfl := hq'.symm; clear hq')
        exact ⟨⟨i + 1 + 1, by omega, by go_num, by rw [HStep.out, Int.natCast_add], later HB.out nq.h⟩, by simp [intOf]; omega⟩
    · obtain rfl : i = L := by omega
      have hfin : s = m := by rw [← HS.out, List.take_of_length_le (by rw [HL.out]; exact Nat.le_refl _), psum_bits hm]
      subst hfin
      go_wp2_with fail
      refine (known_any _ (HT.out.below (later B2.out HB.out) h0)).mono ?_
      rintro e w4 ⟨rfl, b4⟩
      go_wp2_with fail
      refine (count_any s hm _).mono ?_
      rintro e w5 ⟨rfl, b5⟩
      rw [HL.out]
      go_wp2_with fail
      go_ret
      exact ⟨rfl, later (later (later B2.out HB.out) b4) b5⟩
end Go.Proofs.YtakmbemlmpaknaaDoor
