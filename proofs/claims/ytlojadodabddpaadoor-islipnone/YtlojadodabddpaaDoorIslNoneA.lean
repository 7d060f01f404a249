/-
  The law IslipNone of package shunterlaw10, at rounds that may be. Conditions: that the table of math/bits holds what its initialiser lays.
-/
import Derived.Test.YtlojadodabddpaaDoorIslNone
namespace Go.Proofs.YtlojadodabddpaaDoor
open Go.ChangeShapes Go.WideShapes Go.ChangeAt Go.RowKit
set_option linter.unusedVariables false

set_option maxRecDepth 100000 in
set_option maxHeartbeats 4000000 in
theorem islipNone_in (w : World) (hT : Tab w) (k0 : Int) (wk : (Lit.int .u8 k0).wf = true) (z : Int) (wz : (Lit.int .i64 z).wf = true) (hzz : 1 ≤ z ∧ z ≤ 16) :
    Calls Tryd.prog 5 #[.int .u8 k0, .int .i64 z] w fun e w' => e = .returned (.bool true) ∧ Below w.heap.size w w' := by
  obtain ⟨k, rfl, hk⟩ := nat_u8 wk
  obtain ⟨n, hN, hN1, hN16⟩ := size_of k
  have hz := bounds_i64 wz
  have HT : Hid (Tab w) := hT
  have h0 := hT.lt
  have hmk := run_make_row' (P := Tryd.prog) 28 29 (.int .u16 0) 2 Tryd.underlying28 infoM rfl .i64 .i64 n (by omega) (by omega)
  have hmk1 := run_make_row' (P := Tryd.prog) 28 29 (.int .u16 0) 2 Tryd.underlying28 infoM rfl .i64 .i64 (n + 1) (by omega) (by omega)
  rw [show ((n + 1 : Nat) : Int) = (n : Int) + 1 from rfl] at hmk1
  have hmk2 := run_make_row' (P := Tryd.prog) 25 3 (.int .i64 0) 8 Tryd.underlying25 infoI rfl .i64 .i64 n (by omega) (by omega)
  clear hT wk wz
  go_enter Tryd.func5, Tryd.ntmps5
  go_wp2_with fail
  refine (new_good n ⟨hN1, hN16⟩ w).mono ?_
  rintro e w1 ⟨p, g, a, rfl, hA, hB, h1, h2, h3⟩
  go_wp2_with fail
  refine (run_zero hA (HT.out.below hB h0) 1 (by omega) (by omega)).mono ?_
  rintro e w2 ⟨b, rfl, hb, hI, hA2, hS⟩
  have hs1 := hB.size
  have hs2 := hS.size
  have HB2 : Hid (Below w.heap.size w w2) := hB.trans (hS.below (by omega) (fun k e => by omega))
  have HA2 : Hid (Arb w2 p g a n (fun _ => 0) (fun _ => 0)) := hA2
  have HI : Hid (Ints w2 b n (fun _ => -1)) := hI
  clear hA hB hI hA2 hS
  go_wp2_with fail
  go_loopw [8] (fun v wr => ∃ j : Nat, j ≤ n ∧ v = .int .i64 j ∧ wr = w2) (fun v _ => n - (intOf v).toNat)
  case atStart => exact ⟨0, Nat.zero_le _, rfl, rfl⟩
  case round =>
    obtain ⟨j, hj, rfl, rfl⟩ := hrel
    by_cases hjn : j < n
    · have x1 : wr.cell? ⟨b, j, none⟩ = some (.int .i64 (-1)) := (HI.out j hjn).1
      go_wp2_with fail
      go_roundw
      case rel => exact ⟨j + 1, by omega, by go_num, by first | rfl | trivial⟩
      case measure => simp [intOf]; omega
    · obtain rfl : j = n := by omega
      have HA3 : Hid (Arb (wr.alloc (.cells (madeCells #[.int .u16 0] (j + 1)) 29)) p g a j (fun _ => 0) (fun _ => 0)) := HA2.out.below (fresh _ _)
      have HB3 : Hid (Below w.heap.size w (wr.alloc (.cells (madeCells #[.int .u16 0] (j + 1)) 29))) := later HB2.out (fresh _ _)
      go_wp2_with fail
      refine (run_no HA3.out _ (j + 1) (j + 1) (by omega) 1 (by omega) (.inl (by omega))).mono ?_
      rintro e w3 ⟨rfl, rfl⟩
      generalize wr.alloc (.cells (madeCells #[.int .u16 0] (j + 1)) 29) = w3 at HA3 HB3 ⊢
      clear HA2 HB2 HI hmk1
      obtain ⟨K, rfl⟩ := Int.eq_ofNat_of_zero_le (show 0 ≤ z by omega)
      have d1 : decide ((K : Int) < 1) = false := decide_eq_false (by omega)
      have d2 : decide ((16 : Int) < (K : Int)) = false := decide_eq_false (by omega)
      go_wp2_with fail
      refine (run_zero HA3.out (HT.out.below HB3.out h0) K (by omega) (by omega)).mono ?_
      rintro e w4 ⟨c, rfl, _, _, hA4, hS⟩
      have HA4 : Hid (Arb w4 p g a j (fun _ => 0) (fun _ => 0)) := hA4
      have HB4 : Hid (Below w.heap.size w w4) := HB3.out.trans (hS.below HB3.out.size (fun k e => by omega))
      clear hA4 hS HA3 HB3
      go_wp2_with fail
      have hj0 : ((j : Int) == 0) = false := by simp; omega
      have HG : Hid (∀ u : World, Below w4.heap.size w4 u → Arb u p g a j (fun _ => 0) (fun _ => 0)) := fun u hu => HA4.out.below hu
      have HTu : Hid (∀ u, Below w4.heap.size w4 u → Tab u) := fun u hu => HT.out.below (later HB4.out hu) h0
      clear HA4
      go_region_held3 (fun w' => True) (trivial) (first
        | (go_at_call 12; refine (known_any _ (HTu.out _ (drewN_below w4 1))).mono ?_; rintro e u1 ⟨rfl, k1⟩; have b1 : Below w4.heap.size w4 u1 := later (drewN_below w4 1) k1)
        | (go_at_call 13; first | (refine (grants_any (HG.out u1 b1)).mono ?_; rintro e u2 ⟨gb, gc, rfl, _, gi, k2⟩; have b2 : Below w4.heap.size w4 u2 := later b1 k2) | (refine (grants_any (HG.out _ (later b1 (fresh u1 _)))).mono ?_; rintro e u2 ⟨gb, gc, rfl, _, gi, k2⟩; have b2 : Below w4.heap.size w4 u2 := later (later b1 (fresh _ _)) k2))
        | (go_at_call 14; first | (refine (accepts_any (HG.out u3 b3)).mono ?_; rintro e u4 ⟨ab, ac, rfl, _, ai, k4⟩; have b4 : Below w4.heap.size w4 u4 := later b3 k4) | (refine (accepts_any (HG.out _ (later b3 (fresh u3 _)))).mono ?_; rintro e u4 ⟨ab, ac, rfl, _, ai, k4⟩; have b4 : Below w4.heap.size w4 u4 := later (later b3 (fresh _ _)) k4))
        | (go_at_call_of 17 (Value.slice (some ⟨gb, 0, none⟩) j gc); refine (same_new2 hN16 k2 gi).mono ?_; rintro e u3 ⟨rfl, k3⟩; have b3 : Below w4.heap.size w4 u3 := later b2 k3)
        | (go_at_call_of 17 (Value.slice (some ⟨gb, 0, none⟩) j gc); refine (same_new1 hN16 gi).mono ?_; rintro e u3 ⟨rfl, k3⟩; have b3 : Below w4.heap.size w4 u3 := later b2 k3)
        | (go_at_call_of 17 (Value.slice (some ⟨ab, 0, none⟩) j ac); refine (same_new2 hN16 k4 ai).mono ?_; rintro e u5 ⟨rfl, k5⟩; have b5 : Below w4.heap.size w4 u5 := later b4 k5)
        | (go_at_call_of 17 (Value.slice (some ⟨ab, 0, none⟩) j ac); refine (same_new1 hN16 ai).mono ?_; rintro e u5 ⟨rfl, k5⟩; have b5 : Below w4.heap.size w4 u5 := later b4 k5))
      all_goals
        go_wp2_with fail
        go_ret
        exact ⟨rfl, later HB4.out b5⟩
end Go.Proofs.YtlojadodabddpaaDoor
