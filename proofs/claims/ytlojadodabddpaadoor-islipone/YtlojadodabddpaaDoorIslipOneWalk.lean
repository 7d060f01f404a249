/-
  The law IslipOne of package shunterlaw10: an input that asks alone, for one output, has it; both look behind one another then. Conditions: that the table of math/bits holds what its initialiser lays.
-/
import Derived.Test.YtlojadodabddpaaDoorIslArg
namespace Go.Proofs.YtlojadodabddpaaDoor
open Go.ChangeShapes Go.WideShapes Go.ChangeAt Go.RowKit
set_option linter.unusedVariables false

namespace Isl
theorem one_ask {R : Nat → Nat} {n i o : Nat} (hR : ∀ j, j < n → R j = if j = i then 2 ^ o else 0) {x j : Nat} (hj : j < n) : ask R n none_ x j = decide (x = o ∧ j = i) := by
  have ht : taken n none_ x = false := by
    cases hb : taken n none_ x with
    | false => rfl
    | true => obtain ⟨k, _, e⟩ := taken_iff.1 hb; simp [none_] at e
  unfold ask
  rw [ht, hR j hj]
  by_cases e : j = i
  · subst e
    simp [none_, Nat.testBit_two_pow]
    by_cases e2 : x = o
    · subst e2; simp
    · simp [e2, show ¬ o = x by omega]
  · simp [none_, e]
theorem one_acc {R G A : Nat → Nat} {n i o : Nat} (hi : i < n) (ho : o < n) (hR : ∀ j, j < n → R j = if j = i then 2 ^ o else 0) (j : Nat) : acc R G A n none_ j = if j = i then ((o : Nat) : Int) else -1 := by
  have hg : grant R G n none_ o = (i : Nat) := by
    rcases grant_cases (R := R) (G := G) (n := n) (m := none_) o with ⟨_, h⟩ | ⟨k, hk, e, h⟩
    · have := h i hi
      rw [one_ask hR hi] at this
      simp at this
    · rw [one_ask hR hk] at h
      have h : o = o ∧ k = i := by simpa using h
      rw [e, h.2]
  rcases acc_cases (R := R) (G := G) (A := A) (n := n) (m := none_) j with ⟨e, h⟩ | ⟨k, hk, e, h⟩
  · rw [e, if_neg]
    intro e2
    subst e2
    exact h o ho hg
  · have h2 := grant_some h
    rw [one_ask hR h2.1] at h2
    have h3 : k = o ∧ j = i := by simpa using h2.2
    rw [e, if_pos h3.2, h3.1]
theorem one_run {R G A : Nat → Nat} {n i o : Nat} (hi : i < n) (ho : o < n) (hR : ∀ j, j < n → R j = if j = i then 2 ^ o else 0) : (∀ j, run R G A n 1 j = if j = i then ((o : Nat) : Int) else -1) ∧ runG R G A n o = (i + 1) % n ∧ runA R G A n i = (o + 1) % n := by
  have ha := one_acc (G := G) (A := A) hi ho hR
  have h1 : acc R G A n none_ i = (o : Nat) := by rw [ha, if_pos rfl]
  refine ⟨fun j => ?_, movG_at h1, movA_at h1⟩
  show next R G A n none_ j = _
  unfold next
  rw [ha j]
  by_cases e : j = i
  · rw [if_pos e, if_pos (by omega)]
  · rw [if_neg e, if_neg (by omega)]; rfl
end Isl
theorem Cols.poked (w : World) (n i v : Nat) (hi : i < n) : Cols (w.alloc (.cells ((madeCells #[.int .u16 0] n).setIfInBounds i (.int .u16 (v : Nat))) 29)) w.heap.size n (fun j => if j = i then v else 0) := fun k hk => by
  have hb := World.alloc_heap_new w (.cells ((madeCells #[.int .u16 0] n).setIfInBounds i (.int .u16 (v : Nat))) 29)
  constructor
  · unfold World.cell?
    dsimp only
    rw [hb]
    by_cases e : k = i
    · subst e
      simp [madeCells, hk, Nat.mod_one]
    · simp [madeCells, hk, Nat.mod_one, e, show ¬ i = k by omega]
  · unfold World.frozen?
    dsimp only
    rw [hb]
    simp
theorem mod_of (b n : Nat) (hn : 1 ≤ n) : ∃ x : Nat, (b : Int).tmod (n : Int) = (x : Nat) ∧ (b : Int) % (n : Int) = (x : Nat) ∧ x < n := ⟨b % n, by rw [Int.tmod_eq_emod_of_nonneg (by omega)]; simp, by simp, Nat.mod_lt _ (by omega)⟩
set_option maxRecDepth 100000 in
set_option maxHeartbeats 2000000 in
theorem islipOne_any (w : World) (hT : Tab w) (k0 : Int) (wk : (Lit.int .u8 k0).wf = true) (a0 : Int) (wa : (Lit.int .u8 a0).wf = true) (b0 : Int) (wb : (Lit.int .u8 b0).wf = true) :
    Calls Tryd.prog 4 #[.int .u8 k0, .int .u8 a0, .int .u8 b0] w fun e w' => e = .returned (.bool true) ∧ Below w.heap.size w w' := by
  obtain ⟨k, rfl, hk⟩ := nat_u8 wk
  obtain ⟨av, rfl, hav⟩ := nat_u8 wa
  obtain ⟨bv, rfl, hbv⟩ := nat_u8 wb
  obtain ⟨n, hN, hN1, hN16⟩ := size_of k
  obtain ⟨i, hi1, hi2, hi⟩ := mod_of av n hN1
  obtain ⟨o, ho1, ho2, ho⟩ := mod_of bv n hN1
  have HT : Hid (Tab w) := hT
  have h0 := hT.lt
  have z2 : n ≠ 0 := by omega
  have hmk := run_make_row' (P := Tryd.prog) 28 29 (.int .u16 0) 2 Tryd.underlying28 infoM rfl .i64 .i64 n (by omega) (by omega)
  clear hT wk wa wb
  go_enter Tryd.func4, Tryd.ntmps4
  go_wp2_with fail
  refine (new_good n ⟨hN1, hN16⟩ w).mono ?_
  rintro e w1 ⟨p, g, a, rfl, hA, hB, h1, h2, h3⟩
  have HA : Hid (Arb w1 p g a n (fun _ => 0) (fun _ => 0)) := hA
  have HB : Hid (Below w.heap.size w w1) := hB
  have hs1 := hB.size
  have hC0 := Cols.made w1 n
  obtain ⟨c1, f1⟩ := hC0 i hi
  have e2 : ((2 : Int) ^ o) = ((2 ^ o : Nat) : Int) := by simp
  have hp16 : (2 : Nat) ^ o < 65536 := Nat.pow_lt_pow_right (n := 16) (by omega) (by omega)
  have HC := Cols.poked w1 n i (2 ^ o) hi
  obtain ⟨V, hV⟩ : ∃ V, w1.alloc (.cells ((madeCells #[.int .u16 0] n).setIfInBounds i (.int .u16 ((2 ^ o : Nat) : Int))) 29) = V := ⟨_, rfl⟩
  rw [hV] at HC
  have HBV : Hid (Below w1.heap.size w1 V) := by rw [← hV]; exact fresh _ _
  have HC2 : Hid (Cols V w1.heap.size n (fun j => if j = i then 2 ^ o else 0)) := HC
  have HV : Hid (w1.alloc (.cells ((madeCells #[.int .u16 0] n).setIfInBounds i (.int .u16 ((2 ^ o : Nat) : Int))) 29) = V) := hV
  clear hA hB hC0 HC hV e2
  go_wp2_with (go_at_call 15; refine (refBit_any o (by omega) _).mono ?_; rintro e w' ⟨rfl, hq⟩; obtain rfl := hq.symm; clear hq)
  have e2 : ((2 : Int) ^ o) = ((2 ^ o : Nat) : Int) := by simp
  rw [e2, HV.out]
  clear e2 HV c1 f1 hmk
  have hTV : Tab V := HT.out.below (later HB.out HBV.out) h0
  refine (run_cols (HA.out.below HBV.out) HC2.out (fun j hj => by split <;> omega) hTV 1 (by omega) (by omega)).mono ?_
  rintro e w2 ⟨b, rfl, hb, hI, hA2, hS⟩
  have hone := Isl.one_run (R := reqs n (fun j => if j = i then 2 ^ o else 0)) (G := fun _ => 0) (A := fun _ => 0) hi ho (fun j hj => reqs_at hj)
  have HI : Hid (Ints w2 b n (fun j => if j = i then ((o : Nat) : Int) else -1)) := hI.congr (fun j _ => hone.1 j)
  have HB2 : Hid (Below w.heap.size w w2) := (later HB.out HBV.out).trans (hS.below (Nat.le_trans hs1 HBV.out.size) (fun k e => by omega))
  have HA2 : Hid (Arb w2 p g a n (Isl.runG (reqs n (fun j => if j = i then 2 ^ o else 0)) (fun _ => 0) (fun _ => 0) n) (Isl.runA (reqs n (fun j => if j = i then 2 ^ o else 0)) (fun _ => 0) (fun _ => 0) n)) := hA2
  have HO : Hid (Isl.runG (reqs n (fun j => if j = i then 2 ^ o else 0)) (fun _ => 0) (fun _ => 0) n o = (i + 1) % n ∧ Isl.runA (reqs n (fun j => if j = i then 2 ^ o else 0)) (fun _ => 0) (fun _ => 0) n i = (o + 1) % n) := hone.2
  clear hI hA2 hS hone hTV HC2
  go_wp2_with fail
  go_loopw [13] (fun v wr => ∃ j : Nat, j ≤ n ∧ v = .int .i64 j ∧ wr = w2) (fun v _ => n - (intOf v).toNat)
  case atStart => exact ⟨0, Nat.zero_le _, rfl, rfl⟩
  case round =>
    obtain ⟨j, hj, rfl, rfl⟩ := hrel
    by_cases hjn : j < n
    · have x1 := (HI.out j hjn).1
      by_cases e : j = i
      · subst e
        have x2 : wr.cell? ⟨b, j, none⟩ = some (.int .i64 (o : Nat)) := by rw [x1]; dsimp only; rw [if_pos rfl]
        clear x1
        go_wp2_with fail
        go_roundw
        case rel => exact ⟨j + 1, by omega, by go_num, by first | rfl | trivial⟩
        case measure => simp [intOf]; omega
      · have x2 : wr.cell? ⟨b, j, none⟩ = some (.int .i64 (-1)) := by rw [x1]; dsimp only; rw [if_neg e]
        have e1 : ((j : Int) == (i : Int)) = false := by simp; omega
        clear x1
        go_wp2_with fail
        go_roundw
        case rel => exact ⟨j + 1, by omega, by go_num, by first | rfl | trivial⟩
        case measure => simp [intOf]; omega
    · obtain rfl : j = n := by omega
      go_wp2_with fail
      refine (grants_any HA2.out).mono ?_
      rintro e w3 ⟨gb, gc, rfl, _, hG, b3⟩
      go_wp2_with fail
      refine (accepts_any (HA2.out.below b3)).mono ?_
      rintro e w4 ⟨ab, ac, rfl, _, hAc, b4⟩
      have HB4 : Hid (Below w.heap.size w w4) := later (later HB2.out b3) b4
      have x1 : w4.cell? ⟨gb, o, none⟩ = some (.int .i64 (((i + 1) % j : Nat) : Int)) := by rw [← HO.out.1]; exact ((hG.below b4) o ho).1
      have x2 : w4.cell? ⟨ab, i, none⟩ = some (.int .i64 (((o + 1) % j : Nat) : Int)) := by rw [← HO.out.2]; exact (hAc i hi).1
      have hne := Since.any w4
      have cx := fun n : Since w4 => n.cell x1
      have cy := fun n : Since w4 => n.cell x2
      have HT4 : Hid (∀ n : Since w4, Tab n.w) := fun n => (HT.out.below HB4.out h0).since n
      have e1 := tmod_nat i j
      have e2 := tmod_nat o j
      have e3 := wrap_next hi hN16
      have e4 := wrap_next ho hN16
      have e5 : ((i : Int) + 1) % (j : Int) = (((i + 1) % j : Nat) : Int) := by simp
      have e6 : ((o : Int) + 1) % (j : Int) = (((o + 1) % j : Nat) : Int) := by simp
      obtain ⟨ti, hti⟩ : ∃ ti : Nat, (i + 1) % j = ti := ⟨_, rfl⟩
      obtain ⟨to, hto⟩ : ∃ to : Nat, (o + 1) % j = to := ⟨_, rfl⟩
      rw [hti] at e1 e5 cx
      rw [hto] at e2 e6 cy
      clear hG hAc b3 b4 x1 x2 hti hto
      go_wp2_with fail
      refine region_since (u := w4) (by kernel_rfl) (by kernel_rfl) (Below.refl _ _) ?_
      repeat (go_big_quiet_step (first | (go_at_call 12; exact Since.calls _ (known_any _ (HT4.out _)))))
      refine wpQuiet_nil ?_
      intro _ hw'
      obtain ⟨nq, hw''⟩ := hw'
      subst hw''
      go_wp2_with fail
      go_ret
      exact ⟨rfl, later HB4.out nq.h⟩
end Go.Proofs.YtlojadodabddpaaDoor
