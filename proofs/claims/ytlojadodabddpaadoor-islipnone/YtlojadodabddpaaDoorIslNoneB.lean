/-
  The law IslipNone of package shunterlaw10, at rounds below 1. Conditions: that the table of math/bits holds what its initialiser lays.
-/
import Derived.Test.YtlojadodabddpaaDoorIslNone
namespace Go.Proofs.YtlojadodabddpaaDoor
open Go.ChangeShapes Go.WideShapes Go.ChangeAt Go.RowKit
set_option linter.unusedVariables false
set_option linter.unusedSimpArgs false

set_option maxRecDepth 100000 in
set_option maxHeartbeats 4000000 in
theorem islipNone_lo (w : World) (hT : Tab w) (k0 : Int) (wk : (Lit.int .u8 k0).wf = true) (z : Int) (wz : (Lit.int .i64 z).wf = true) (hzz : z < 1) :
    Calls Tryd.prog 5 #[.int .u8 k0, .int .i64 z] w fun e w' => e = .returned (.bool true) ∧ Below w.heap.size w w' := by
  obtain ⟨k, rfl, hk⟩ := nat_u8 wk
  obtain ⟨n, hN, hN1, hN16⟩ := size_of k
  have hz := bounds_i64 wz
  have HT : Hid (Tab w) := hT
  have h0 := hT.lt
  have hmk := run_make_row' (P := Tryd.prog) 28 29 (.int .u16 0) 2 Tryd.underlying28 infoM rfl .i64 .i64 n (by omega) (by omega)
  have hmk1 := run_make_row' (P := Tryd.prog) 28 29 (.int .u16 0) 2 Tryd.underlying28 infoM rfl .i64 .i64 (n + 1) (by omega) (by omega)
  rw [show ((n + 1 : Nat) : Int) = (n : Int) + 1 from rfl] at hmk1
  have hmk2 := run_make_row' (P := Tryd.prog) 25 3 (.int .i64 0) 8 Tryd.underlying25 infoI rfl .i64 .i64 n (by omega) (by omega)
  clear hT wk wz
  go_enter Tryd.func5, Tryd.ntmps5
  go_wp2_with fail
  refine (new_good n ⟨hN1, hN16⟩ w).mono ?_
  rintro e w1 ⟨p, g, a, rfl, hA, hB, h1, h2, h3⟩
  go_wp2_with fail
  refine (run_zero hA (HT.out.below hB h0) 1 (by omega) (by omega)).mono ?_
  rintro e w2 ⟨b, rfl, hb, hI, hA2, hS⟩
  have hs1 := hB.size
  have hs2 := hS.size
  have HB2 : Hid (Below w.heap.size w w2) := hB.trans (hS.below (by omega) (fun k e => by omega))
  have HA2 : Hid (Arb w2 p g a n (fun _ => 0) (fun _ => 0)) := hA2
  have HI : Hid (Ints w2 b n (fun _ => -1)) := hI
  clear hA hB hI hA2 hS
  go_wp2_with fail
  go_loopw [8] (fun v wr => ∃ j : Nat, j ≤ n ∧ v = .int .i64 j ∧ wr = w2) (fun v _ => n - (intOf v).toNat)
  case atStart => exact ⟨0, Nat.zero_le _, rfl, rfl⟩
  case round =>
    obtain ⟨j, hj, rfl, rfl⟩ := hrel
    by_cases hjn : j < n
    · have x1 : wr.cell? ⟨b, j, none⟩ = some (.int .i64 (-1)) := (HI.out j hjn).1
      go_wp2_with fail
      go_roundw
      case rel => exact ⟨j + 1, by omega, by go_num, by first | rfl | trivial⟩
      case measure => simp [intOf]; omega
    · obtain rfl : j = n := by omega
      have HA3 : Hid (Arb (wr.alloc (.cells (madeCells #[.int .u16 0] (j + 1)) 29)) p g a j (fun _ => 0) (fun _ => 0)) := HA2.out.below (fresh _ _)
      have HB3 : Hid (Below w.heap.size w (wr.alloc (.cells (madeCells #[.int .u16 0] (j + 1)) 29))) := later HB2.out (fresh _ _)
      go_wp2_with fail
      refine (run_no HA3.out _ (j + 1) (j + 1) (by omega) 1 (by omega) (.inl (by omega))).mono ?_
      rintro e w3 ⟨rfl, rfl⟩
      generalize wr.alloc (.cells (madeCells #[.int .u16 0] (j + 1)) 29) = w3 at HA3 HB3 ⊢
      clear HA2 HB2 HI hmk1
      have HA4 : Hid (Arb (w3.alloc (.cells (madeCells #[.int .u16 0] j) 29)) p g a j (fun _ => 0) (fun _ => 0)) := HA3.out.below (fresh _ _)
      have HB4 : Hid (Below w.heap.size w (w3.alloc (.cells (madeCells #[.int .u16 0] j) 29))) := later HB3.out (fresh _ _)
      go_wp2_with fail
      refine (run_no HA4.out _ j j (by omega) z hz (.inr (by omega))).mono ?_
      rintro e w4 ⟨rfl, rfl⟩
      generalize w3.alloc (.cells (madeCells #[.int .u16 0] j) 29) = w4 at HA4 HB4 ⊢
      clear HA3 HB3
      have d1 : decide (z < 1) = true := decide_eq_true hzz
      go_wp2_with fail
      have hj0 : ((j : Int) == 0) = false := by simp; omega
      have HG : Hid (∀ u : World, Below w4.heap.size w4 u → Arb u p g a j (fun _ => 0) (fun _ => 0)) := fun u hu => HA4.out.below hu
      have HTu : Hid (∀ u, Below w4.heap.size w4 u → Tab u) := fun u hu => HT.out.below (later HB4.out hu) h0
      clear HA4
      refine wp_region_held_drew (S := fun _ => True) (by kernel_rfl) trivial (fun hHeld => ?_)
      refine wpAnyH_ready (rs := [0]) (by kernel_rfl) (by simp) ?_
      refine AllReadyH.cons (o := { dst := some 44, op := Op.call { callee := Callee.value (Operand.func 12), args := #[], argTypes := #[] }, type := 4, pos := _, after := _, guard := none }) rfl (fun K hK => ?_) AllReadyH.nil
      go_simp
      refine (known_any _ (HTu.out _ (drewN_below w4 1))).mono ?_
      rintro e u1 ⟨rfl, k1⟩
      have b1 : Below w4.heap.size w4 u1 := later (drewN_below w4 1) k1
      go_wp2_with fail
      refine hK.out _ _ trivial (fun hHeld => ?_)
      refine wpAnyH_take (i := 1) (oi := { dst := some 45, op := Op.move (Operand.tmp 44), type := 4, pos := _, after := _, guard := none }) (v := .bool true) rfl (by kernel_rfl) (by kernel_rfl) (by kernel_rfl) (fun _ _ _ h => h) (Or.inl ⟨by rfl, fun w hSw => ?_⟩) (by assumption) ?_
      · go_simp
      simp only [Act.put, List.setIfInBounds_toArray, List.set_cons_zero, List.set_cons_succ]
      refine wpAnyH_take (i := 2) (oi := { dst := some 46, op := Op.move (Operand.tmp 7), type := 25, pos := _, after := _, guard := some (1, true) }) (v := .slice (some ⟨b, 0, none⟩) j j) rfl (by kernel_rfl) (by kernel_rfl) (by kernel_rfl) (fun _ _ _ h => h) (Or.inl ⟨by rfl, fun w hSw => ?_⟩) (by assumption) ?_
      · go_simp
      simp only [Act.put, List.setIfInBounds_toArray, List.set_cons_zero, List.set_cons_succ]
      refine wpAnyH_take (i := 3) (oi := { dst := some 47, op := Op.call { callee := Callee.builtin Builtin.len, args := #[Operand.tmp 46], argTypes := #[25] }, type := 3, pos := _, after := _, guard := some (1, true) }) (v := .int .i64 (j : Nat)) rfl (by kernel_rfl) (by kernel_rfl) (by kernel_rfl) (fun _ _ _ h => h) (Or.inl ⟨by rfl, fun w hSw => ?_⟩) (by assumption) ?_
      · go_simp
      simp only [Act.put, List.setIfInBounds_toArray, List.set_cons_zero, List.set_cons_succ]
      refine wpAnyH_take (i := 4) (oi := { dst := some 48, op := Op.move (Operand.tmp 5), type := 3, pos := _, after := _, guard := some (1, true) }) (v := .int .i64 (j : Nat)) rfl (by kernel_rfl) (by kernel_rfl) (by kernel_rfl) (fun _ _ _ h => h) (Or.inl ⟨by rfl, fun w hSw => ?_⟩) (by assumption) ?_
      · go_simp
      simp only [Act.put, List.setIfInBounds_toArray, List.set_cons_zero, List.set_cons_succ]
      refine wpAnyH_take (i := 5) (oi := { dst := some 49, op := Op.binOp BinOp.eql 3 (Operand.tmp 47) (Operand.tmp 48) 3, type := 4, pos := _, after := _, guard := some (1, true) }) (v := .bool true) rfl (by kernel_rfl) (by kernel_rfl) (by kernel_rfl) (fun _ _ _ h => h) (Or.inl ⟨by rfl, fun w hSw => ?_⟩) (by assumption) ?_
      · go_simp
      simp only [Act.put, List.setIfInBounds_toArray, List.set_cons_zero, List.set_cons_succ]
      refine wpAnyH_take (i := 6) (oi := { dst := some 50, op := Op.pick (Operand.tmp 45) (Operand.tmp 49) (Operand.const (Value.bool false)), type := 4, pos := _, after := _, guard := none }) (v := .bool true) rfl (by kernel_rfl) (by kernel_rfl) (by kernel_rfl) (fun _ _ _ h => h) (Or.inl ⟨by rfl, fun w hSw => ?_⟩) (by assumption) ?_
      · go_simp
      simp only [Act.put, List.setIfInBounds_toArray, List.set_cons_zero, List.set_cons_succ]
      refine wpAnyH_take (i := 7) (oi := { dst := some 51, op := Op.move (Operand.tmp 50), type := 4, pos := _, after := _, guard := none }) (v := .bool true) rfl (by kernel_rfl) (by kernel_rfl) (by kernel_rfl) (fun _ _ _ h => h) (Or.inl ⟨by rfl, fun w hSw => ?_⟩) (by assumption) ?_
      · go_simp
      simp only [Act.put, List.setIfInBounds_toArray, List.set_cons_zero, List.set_cons_succ]
      refine wpAnyH_take (i := 8) (oi := { dst := some 52, op := Op.move (Operand.tmp 9), type := 25, pos := _, after := _, guard := some (7, true) }) (v := .slice none 0 0) rfl (by kernel_rfl) (by kernel_rfl) (by kernel_rfl) (fun _ _ _ h => h) (Or.inl ⟨by rfl, fun w hSw => ?_⟩) (by assumption) ?_
      · go_simp
      simp only [Act.put, List.setIfInBounds_toArray, List.set_cons_zero, List.set_cons_succ]
      refine wpAnyH_take (i := 9) (oi := { dst := some 53, op := Op.call { callee := Callee.builtin Builtin.len, args := #[Operand.tmp 52], argTypes := #[25] }, type := 3, pos := _, after := _, guard := some (7, true) }) (v := .int .i64 0) rfl (by kernel_rfl) (by kernel_rfl) (by kernel_rfl) (fun _ _ _ h => h) (Or.inl ⟨by rfl, fun w hSw => ?_⟩) (by assumption) ?_
      · go_simp
      simp only [Act.put, List.setIfInBounds_toArray, List.set_cons_zero, List.set_cons_succ]
      refine wpAnyH_take (i := 10) (oi := { dst := some 54, op := Op.binOp BinOp.eql 3 (Operand.tmp 53) (Operand.const (Value.int IntKind.i64 0)) 3, type := 4, pos := _, after := _, guard := some (7, true) }) (v := .bool true) rfl (by kernel_rfl) (by kernel_rfl) (by kernel_rfl) (fun _ _ _ h => h) (Or.inl ⟨by rfl, fun w hSw => ?_⟩) (by assumption) ?_
      · go_simp
      simp only [Act.put, List.setIfInBounds_toArray, List.set_cons_zero, List.set_cons_succ]
      refine wpAnyH_take (i := 11) (oi := { dst := some 55, op := Op.pick (Operand.tmp 51) (Operand.tmp 54) (Operand.const (Value.bool false)), type := 4, pos := _, after := _, guard := none }) (v := .bool true) rfl (by kernel_rfl) (by kernel_rfl) (by kernel_rfl) (fun _ _ _ h => h) (Or.inl ⟨by rfl, fun w hSw => ?_⟩) (by assumption) ?_
      · go_simp
      simp only [Act.put, List.setIfInBounds_toArray, List.set_cons_zero, List.set_cons_succ]
      refine wpAnyH_take (i := 12) (oi := { dst := some 56, op := Op.move (Operand.tmp 55), type := 4, pos := _, after := _, guard := none }) (v := .bool true) rfl (by kernel_rfl) (by kernel_rfl) (by kernel_rfl) (fun _ _ _ h => h) (Or.inl ⟨by rfl, fun w hSw => ?_⟩) (by assumption) ?_
      · go_simp
      simp only [Act.put, List.setIfInBounds_toArray, List.set_cons_zero, List.set_cons_succ]
      refine wpAnyH_take (i := 13) (oi := { dst := some 57, op := Op.move (Operand.tmp 10), type := 25, pos := _, after := _, guard := some (12, true) }) (v := .slice none 0 0) rfl (by kernel_rfl) (by kernel_rfl) (by kernel_rfl) (fun _ _ _ h => h) (Or.inl ⟨by rfl, fun w hSw => ?_⟩) (by assumption) ?_
      · go_simp
      simp only [Act.put, List.setIfInBounds_toArray, List.set_cons_zero, List.set_cons_succ]
      refine wpAnyH_take (i := 14) (oi := { dst := some 58, op := Op.call { callee := Callee.builtin Builtin.len, args := #[Operand.tmp 57], argTypes := #[25] }, type := 3, pos := _, after := _, guard := some (12, true) }) (v := .int .i64 0) rfl (by kernel_rfl) (by kernel_rfl) (by kernel_rfl) (fun _ _ _ h => h) (Or.inl ⟨by rfl, fun w hSw => ?_⟩) (by assumption) ?_
      · go_simp
      simp only [Act.put, List.setIfInBounds_toArray, List.set_cons_zero, List.set_cons_succ]
      refine wpAnyH_take (i := 15) (oi := { dst := some 59, op := Op.binOp BinOp.eql 3 (Operand.tmp 58) (Operand.const (Value.int IntKind.i64 0)) 3, type := 4, pos := _, after := _, guard := some (12, true) }) (v := .bool true) rfl (by kernel_rfl) (by kernel_rfl) (by kernel_rfl) (fun _ _ _ h => h) (Or.inl ⟨by rfl, fun w hSw => ?_⟩) (by assumption) ?_
      · go_simp
      simp only [Act.put, List.setIfInBounds_toArray, List.set_cons_zero, List.set_cons_succ]
      refine wpAnyH_take (i := 16) (oi := { dst := some 60, op := Op.move (Operand.tmp 1), type := 3, pos := _, after := _, guard := some (12, true) }) (v := .int .i64 z) rfl (by kernel_rfl) (by kernel_rfl) (by kernel_rfl) (fun _ _ _ h => h) (Or.inl ⟨by rfl, fun w hSw => ?_⟩) (by assumption) ?_
      · go_simp
      simp only [Act.put, List.setIfInBounds_toArray, List.set_cons_zero, List.set_cons_succ]
      refine wpAnyH_take (i := 17) (oi := { dst := some 61, op := Op.binOp BinOp.lss 3 (Operand.tmp 60) (Operand.const (Value.int IntKind.i64 1)) 3, type := 4, pos := _, after := _, guard := some (12, true) }) (v := .bool true) rfl (by kernel_rfl) (by kernel_rfl) (by kernel_rfl) (fun _ _ _ h => h) (Or.inl ⟨by rfl, fun w hSw => ?_⟩) (by assumption) ?_
      · go_simp
      simp only [Act.put, List.setIfInBounds_toArray, List.set_cons_zero, List.set_cons_succ]
      refine wpAnyH_take (i := 18) (oi := { dst := some 62, op := Op.move (Operand.tmp 61), type := 4, pos := _, after := _, guard := some (12, true) }) (v := .bool true) rfl (by kernel_rfl) (by kernel_rfl) (by kernel_rfl) (fun _ _ _ h => h) (Or.inl ⟨by rfl, fun w hSw => ?_⟩) (by assumption) ?_
      · go_simp
      simp only [Act.put, List.setIfInBounds_toArray, List.set_cons_zero, List.set_cons_succ]
      refine wpAnyH_take (i := 19) (oi := { dst := some 63, op := Op.move (Operand.tmp 1), type := 3, pos := _, after := _, guard := some (18, false) }) (v := undef) rfl (by kernel_rfl) (by kernel_rfl) (by kernel_rfl) (fun _ _ _ h => h) (Or.inr ⟨by rfl, rfl⟩) (by assumption) ?_
      simp only [Act.put, List.setIfInBounds_toArray, List.set_cons_zero, List.set_cons_succ]
      refine wpAnyH_take (i := 20) (oi := { dst := some 64, op := Op.binOp BinOp.gtr 3 (Operand.tmp 63) (Operand.const (Value.int IntKind.i64 16)) 3, type := 4, pos := _, after := _, guard := some (18, false) }) (v := undef) rfl (by kernel_rfl) (by kernel_rfl) (by kernel_rfl) (fun _ _ _ h => h) (Or.inr ⟨by rfl, rfl⟩) (by assumption) ?_
      simp only [Act.put, List.setIfInBounds_toArray, List.set_cons_zero, List.set_cons_succ]
      refine wpAnyH_take (i := 21) (oi := { dst := some 65, op := Op.pick (Operand.tmp 62) (Operand.const (Value.bool true)) (Operand.tmp 64), type := 4, pos := _, after := _, guard := some (12, true) }) (v := .bool true) rfl (by kernel_rfl) (by kernel_rfl) (by kernel_rfl) (fun _ _ _ h => h) (Or.inl ⟨by rfl, fun w hSw => ?_⟩) (by assumption) ?_
      · go_simp
      simp only [Act.put, List.setIfInBounds_toArray, List.set_cons_zero, List.set_cons_succ]
      refine wpAnyH_take (i := 22) (oi := { dst := some 66, op := Op.binOp BinOp.eql 4 (Operand.tmp 59) (Operand.tmp 65) 4, type := 4, pos := _, after := _, guard := some (12, true) }) (v := .bool true) rfl (by kernel_rfl) (by kernel_rfl) (by kernel_rfl) (fun _ _ _ h => h) (Or.inl ⟨by rfl, fun w hSw => ?_⟩) (by assumption) ?_
      · go_simp
      simp only [Act.put, List.setIfInBounds_toArray, List.set_cons_zero, List.set_cons_succ]
      refine wpAnyH_take (i := 23) (oi := { dst := some 67, op := Op.pick (Operand.tmp 56) (Operand.tmp 66) (Operand.const (Value.bool false)), type := 4, pos := _, after := _, guard := none }) (v := .bool true) rfl (by kernel_rfl) (by kernel_rfl) (by kernel_rfl) (fun _ _ _ h => h) (Or.inl ⟨by rfl, fun w hSw => ?_⟩) (by assumption) ?_
      · go_simp
      simp only [Act.put, List.setIfInBounds_toArray, List.set_cons_zero, List.set_cons_succ]
      refine wpAnyH_take (i := 24) (oi := { dst := some 68, op := Op.move (Operand.tmp 67), type := 4, pos := _, after := _, guard := none }) (v := .bool true) rfl (by kernel_rfl) (by kernel_rfl) (by kernel_rfl) (fun _ _ _ h => h) (Or.inl ⟨by rfl, fun w hSw => ?_⟩) (by assumption) ?_
      · go_simp
      simp only [Act.put, List.setIfInBounds_toArray, List.set_cons_zero, List.set_cons_succ]
      refine wpAnyH_take (i := 25) (oi := { dst := some 69, op := Op.move (Operand.tmp 6), type := 22, pos := _, after := _, guard := some (24, true) }) (v := .pointer (some ⟨p, 0, none⟩)) rfl (by kernel_rfl) (by kernel_rfl) (by kernel_rfl) (fun _ _ _ h => h) (Or.inl ⟨by rfl, fun w hSw => ?_⟩) (by assumption) ?_
      · go_simp
      simp only [Act.put, List.setIfInBounds_toArray, List.set_cons_zero, List.set_cons_succ]
      refine wpAnyH_take (i := 27) (oi := { dst := some 71, op := Op.move (Operand.tmp 5), type := 3, pos := _, after := _, guard := some (24, true) }) (v := .int .i64 (j : Nat)) rfl (by kernel_rfl) (by kernel_rfl) (by kernel_rfl) (fun _ _ _ h => h) (Or.inl ⟨by rfl, fun w hSw => ?_⟩) (by assumption) ?_
      · go_simp
      simp only [Act.put, List.setIfInBounds_toArray, List.set_cons_zero, List.set_cons_succ]
      refine wpAnyH_ready (rs := [26, 28]) (by kernel_rfl) (by simp) ?_
      refine AllReadyH.cons (o := { dst := some 70, op := Op.call { callee := Callee.value (Operand.func 13), args := #[Operand.tmp 69], argTypes := #[22] }, type := 25, pos := _, after := _, guard := some (24, true) }) rfl (fun K hK => ?_) (AllReadyH.cons (o := { dst := some 72, op := Op.makeSlice 25 (Operand.tmp 71) (Operand.tmp 71), type := 25, pos := _, after := _, guard := some (24, true) }) rfl (fun K hK => ?_) AllReadyH.nil)
      · go_simp
        refine (grants_any (HG.out u1 b1)).mono ?_
        rintro e u2 ⟨gb, gc, rfl, _, gi, k2⟩
        have b2 : Below w4.heap.size w4 u2 := later b1 k2
        go_wp2_with fail
        refine hK.out _ _ trivial (fun hHeld => ?_)
        refine wpAnyH_ready (rs := [28]) (by kernel_rfl) (by simp) ?_
        refine AllReadyH.cons (o := { dst := some 72, op := Op.makeSlice 25 (Operand.tmp 71) (Operand.tmp 71), type := 25, pos := _, after := _, guard := some (24, true) }) rfl (fun K hK => ?_) AllReadyH.nil
        go_simp
        refine hK.out _ _ trivial (fun hHeld => ?_)
        refine wpAnyH_ready (rs := [29]) (by kernel_rfl) (by simp) ?_
        refine AllReadyH.cons (o := { dst := some 73, op := Op.call { callee := Callee.value (Operand.func 17), args := #[Operand.tmp 70, Operand.tmp 72], argTypes := #[25, 25] }, type := 4, pos := _, after := _, guard := some (24, true) }) rfl (fun K hK => ?_) AllReadyH.nil
        go_simp
        refine (same_new1 hN16 gi).mono ?_
        rintro e u3 ⟨rfl, k3⟩
        have b3 : Below w4.heap.size w4 u3 := later b2 k3
        go_wp2_with fail
        refine hK.out _ _ trivial (fun hHeld => ?_)
        refine wpAnyH_take (i := 30) (oi := { dst := some 74, op := Op.pick (Operand.tmp 68) (Operand.tmp 73) (Operand.const (Value.bool false)), type := 4, pos := _, after := _, guard := none }) (v := .bool true) rfl (by kernel_rfl) (by kernel_rfl) (by kernel_rfl) (fun _ _ _ h => h) (Or.inl ⟨by rfl, fun w hSw => ?_⟩) (by assumption) ?_
        · go_simp
        simp only [Act.put, List.setIfInBounds_toArray, List.set_cons_zero, List.set_cons_succ]
        refine wpAnyH_take (i := 31) (oi := { dst := some 75, op := Op.move (Operand.tmp 74), type := 4, pos := _, after := _, guard := none }) (v := .bool true) rfl (by kernel_rfl) (by kernel_rfl) (by kernel_rfl) (fun _ _ _ h => h) (Or.inl ⟨by rfl, fun w hSw => ?_⟩) (by assumption) ?_
        · go_simp
        simp only [Act.put, List.setIfInBounds_toArray, List.set_cons_zero, List.set_cons_succ]
        refine wpAnyH_take (i := 32) (oi := { dst := some 76, op := Op.move (Operand.tmp 6), type := 22, pos := _, after := _, guard := some (31, true) }) (v := .pointer (some ⟨p, 0, none⟩)) rfl (by kernel_rfl) (by kernel_rfl) (by kernel_rfl) (fun _ _ _ h => h) (Or.inl ⟨by rfl, fun w hSw => ?_⟩) (by assumption) ?_
        · go_simp
        simp only [Act.put, List.setIfInBounds_toArray, List.set_cons_zero, List.set_cons_succ]
        refine wpAnyH_take (i := 34) (oi := { dst := some 78, op := Op.move (Operand.tmp 5), type := 3, pos := _, after := _, guard := some (31, true) }) (v := .int .i64 (j : Nat)) rfl (by kernel_rfl) (by kernel_rfl) (by kernel_rfl) (fun _ _ _ h => h) (Or.inl ⟨by rfl, fun w hSw => ?_⟩) (by assumption) ?_
        · go_simp
        simp only [Act.put, List.setIfInBounds_toArray, List.set_cons_zero, List.set_cons_succ]
        refine wpAnyH_ready (rs := [33, 35]) (by kernel_rfl) (by simp) ?_
        refine AllReadyH.cons (o := { dst := some 77, op := Op.call { callee := Callee.value (Operand.func 14), args := #[Operand.tmp 76], argTypes := #[22] }, type := 25, pos := _, after := _, guard := some (31, true) }) rfl (fun K hK => ?_) (AllReadyH.cons (o := { dst := some 79, op := Op.makeSlice 25 (Operand.tmp 78) (Operand.tmp 78), type := 25, pos := _, after := _, guard := some (31, true) }) rfl (fun K hK => ?_) AllReadyH.nil)
        · go_simp
          refine (accepts_any (HG.out u3 b3)).mono ?_
          rintro e u4 ⟨ab, ac, rfl, _, ai, k4⟩
          have b4 : Below w4.heap.size w4 u4 := later b3 k4
          go_wp2_with fail
          refine hK.out _ _ trivial (fun hHeld => ?_)
          refine wpAnyH_ready (rs := [35]) (by kernel_rfl) (by simp) ?_
          refine AllReadyH.cons (o := { dst := some 79, op := Op.makeSlice 25 (Operand.tmp 78) (Operand.tmp 78), type := 25, pos := _, after := _, guard := some (31, true) }) rfl (fun K hK => ?_) AllReadyH.nil
          go_simp
          refine hK.out _ _ trivial (fun hHeld => ?_)
          refine wpAnyH_ready (rs := [36]) (by kernel_rfl) (by simp) ?_
          refine AllReadyH.cons (o := { dst := some 80, op := Op.call { callee := Callee.value (Operand.func 17), args := #[Operand.tmp 77, Operand.tmp 79], argTypes := #[25, 25] }, type := 4, pos := _, after := _, guard := some (31, true) }) rfl (fun K hK => ?_) AllReadyH.nil
          go_simp
          refine (same_new1 hN16 ai).mono ?_
          rintro e u5 ⟨rfl, k5⟩
          have b5 : Below w4.heap.size w4 u5 := later b4 k5
          go_wp2_with fail
          refine hK.out _ _ trivial (fun hHeld => ?_)
          refine wpAnyH_take (i := 37) (oi := { dst := some 81, op := Op.pick (Operand.tmp 75) (Operand.tmp 80) (Operand.const (Value.bool false)), type := 4, pos := _, after := _, guard := none }) (v := .bool true) rfl (by kernel_rfl) (by kernel_rfl) (by kernel_rfl) (fun _ _ _ h => h) (Or.inl ⟨by rfl, fun w hSw => ?_⟩) (by assumption) ?_
          · go_simp
          simp only [Act.put, List.setIfInBounds_toArray, List.set_cons_zero, List.set_cons_succ]
          refine wpAnyH_take (i := 38) (oi := { dst := some 4, op := Op.assign (Operand.tmp 81), type := 4, pos := _, after := _, guard := none }) (v := .bool true) rfl (by kernel_rfl) (by kernel_rfl) (by kernel_rfl) (fun _ _ _ h => h) (Or.inl ⟨by rfl, fun w hSw => ?_⟩) (by assumption) ?_
          · go_simp
          simp only [Act.put, List.setIfInBounds_toArray, List.set_cons_zero, List.set_cons_succ]
          refine wpAnyH_done (by kernel_rfl) ?_ _
          go_wp2_with fail
          go_ret
          exact ⟨rfl, later HB4.out b5⟩
        · go_simp
          refine hK.out _ _ trivial (fun hHeld => ?_)
          refine wpAnyH_ready (rs := [33]) (by kernel_rfl) (by simp) ?_
          refine AllReadyH.cons (o := { dst := some 77, op := Op.call { callee := Callee.value (Operand.func 14), args := #[Operand.tmp 76], argTypes := #[22] }, type := 25, pos := _, after := _, guard := some (31, true) }) rfl (fun K hK => ?_) AllReadyH.nil
          go_simp
          refine (accepts_any (HG.out _ (later b3 (fresh u3 _)))).mono ?_
          rintro e u4 ⟨ab, ac, rfl, _, ai, k4⟩
          have b4 : Below w4.heap.size w4 u4 := later (later b3 (fresh _ _)) k4
          go_wp2_with fail
          refine hK.out _ _ trivial (fun hHeld => ?_)
          refine wpAnyH_ready (rs := [36]) (by kernel_rfl) (by simp) ?_
          refine AllReadyH.cons (o := { dst := some 80, op := Op.call { callee := Callee.value (Operand.func 17), args := #[Operand.tmp 77, Operand.tmp 79], argTypes := #[25, 25] }, type := 4, pos := _, after := _, guard := some (31, true) }) rfl (fun K hK => ?_) AllReadyH.nil
          go_simp
          refine (same_new2 hN16 k4 ai).mono ?_
          rintro e u5 ⟨rfl, k5⟩
          have b5 : Below w4.heap.size w4 u5 := later b4 k5
          go_wp2_with fail
          refine hK.out _ _ trivial (fun hHeld => ?_)
          refine wpAnyH_take (i := 37) (oi := { dst := some 81, op := Op.pick (Operand.tmp 75) (Operand.tmp 80) (Operand.const (Value.bool false)), type := 4, pos := _, after := _, guard := none }) (v := .bool true) rfl (by kernel_rfl) (by kernel_rfl) (by kernel_rfl) (fun _ _ _ h => h) (Or.inl ⟨by rfl, fun w hSw => ?_⟩) (by assumption) ?_
          · go_simp
          simp only [Act.put, List.setIfInBounds_toArray, List.set_cons_zero, List.set_cons_succ]
          refine wpAnyH_take (i := 38) (oi := { dst := some 4, op := Op.assign (Operand.tmp 81), type := 4, pos := _, after := _, guard := none }) (v := .bool true) rfl (by kernel_rfl) (by kernel_rfl) (by kernel_rfl) (fun _ _ _ h => h) (Or.inl ⟨by rfl, fun w hSw => ?_⟩) (by assumption) ?_
          · go_simp
          simp only [Act.put, List.setIfInBounds_toArray, List.set_cons_zero, List.set_cons_succ]
          refine wpAnyH_done (by kernel_rfl) ?_ _
          go_wp2_with fail
          go_ret
          exact ⟨rfl, later HB4.out b5⟩
      · go_simp
        refine hK.out _ _ trivial (fun hHeld => ?_)
        refine wpAnyH_ready (rs := [26]) (by kernel_rfl) (by simp) ?_
        refine AllReadyH.cons (o := { dst := some 70, op := Op.call { callee := Callee.value (Operand.func 13), args := #[Operand.tmp 69], argTypes := #[22] }, type := 25, pos := _, after := _, guard := some (24, true) }) rfl (fun K hK => ?_) AllReadyH.nil
        go_simp
        refine (grants_any (HG.out _ (later b1 (fresh u1 _)))).mono ?_
        rintro e u2 ⟨gb, gc, rfl, _, gi, k2⟩
        have b2 : Below w4.heap.size w4 u2 := later (later b1 (fresh _ _)) k2
        go_wp2_with fail
        refine hK.out _ _ trivial (fun hHeld => ?_)
        refine wpAnyH_ready (rs := [29]) (by kernel_rfl) (by simp) ?_
        refine AllReadyH.cons (o := { dst := some 73, op := Op.call { callee := Callee.value (Operand.func 17), args := #[Operand.tmp 70, Operand.tmp 72], argTypes := #[25, 25] }, type := 4, pos := _, after := _, guard := some (24, true) }) rfl (fun K hK => ?_) AllReadyH.nil
        go_simp
        refine (same_new2 hN16 k2 gi).mono ?_
        rintro e u3 ⟨rfl, k3⟩
        have b3 : Below w4.heap.size w4 u3 := later b2 k3
        go_wp2_with fail
        refine hK.out _ _ trivial (fun hHeld => ?_)
        refine wpAnyH_take (i := 30) (oi := { dst := some 74, op := Op.pick (Operand.tmp 68) (Operand.tmp 73) (Operand.const (Value.bool false)), type := 4, pos := _, after := _, guard := none }) (v := .bool true) rfl (by kernel_rfl) (by kernel_rfl) (by kernel_rfl) (fun _ _ _ h => h) (Or.inl ⟨by rfl, fun w hSw => ?_⟩) (by assumption) ?_
        · go_simp
        simp only [Act.put, List.setIfInBounds_toArray, List.set_cons_zero, List.set_cons_succ]
        refine wpAnyH_take (i := 31) (oi := { dst := some 75, op := Op.move (Operand.tmp 74), type := 4, pos := _, after := _, guard := none }) (v := .bool true) rfl (by kernel_rfl) (by kernel_rfl) (by kernel_rfl) (fun _ _ _ h => h) (Or.inl ⟨by rfl, fun w hSw => ?_⟩) (by assumption) ?_
        · go_simp
        simp only [Act.put, List.setIfInBounds_toArray, List.set_cons_zero, List.set_cons_succ]
        refine wpAnyH_take (i := 32) (oi := { dst := some 76, op := Op.move (Operand.tmp 6), type := 22, pos := _, after := _, guard := some (31, true) }) (v := .pointer (some ⟨p, 0, none⟩)) rfl (by kernel_rfl) (by kernel_rfl) (by kernel_rfl) (fun _ _ _ h => h) (Or.inl ⟨by rfl, fun w hSw => ?_⟩) (by assumption) ?_
        · go_simp
        simp only [Act.put, List.setIfInBounds_toArray, List.set_cons_zero, List.set_cons_succ]
        refine wpAnyH_take (i := 34) (oi := { dst := some 78, op := Op.move (Operand.tmp 5), type := 3, pos := _, after := _, guard := some (31, true) }) (v := .int .i64 (j : Nat)) rfl (by kernel_rfl) (by kernel_rfl) (by kernel_rfl) (fun _ _ _ h => h) (Or.inl ⟨by rfl, fun w hSw => ?_⟩) (by assumption) ?_
        · go_simp
        simp only [Act.put, List.setIfInBounds_toArray, List.set_cons_zero, List.set_cons_succ]
        refine wpAnyH_ready (rs := [33, 35]) (by kernel_rfl) (by simp) ?_
        refine AllReadyH.cons (o := { dst := some 77, op := Op.call { callee := Callee.value (Operand.func 14), args := #[Operand.tmp 76], argTypes := #[22] }, type := 25, pos := _, after := _, guard := some (31, true) }) rfl (fun K hK => ?_) (AllReadyH.cons (o := { dst := some 79, op := Op.makeSlice 25 (Operand.tmp 78) (Operand.tmp 78), type := 25, pos := _, after := _, guard := some (31, true) }) rfl (fun K hK => ?_) AllReadyH.nil)
        · go_simp
          refine (accepts_any (HG.out u3 b3)).mono ?_
          rintro e u4 ⟨ab, ac, rfl, _, ai, k4⟩
          have b4 : Below w4.heap.size w4 u4 := later b3 k4
          go_wp2_with fail
          refine hK.out _ _ trivial (fun hHeld => ?_)
          refine wpAnyH_ready (rs := [35]) (by kernel_rfl) (by simp) ?_
          refine AllReadyH.cons (o := { dst := some 79, op := Op.makeSlice 25 (Operand.tmp 78) (Operand.tmp 78), type := 25, pos := _, after := _, guard := some (31, true) }) rfl (fun K hK => ?_) AllReadyH.nil
          go_simp
          refine hK.out _ _ trivial (fun hHeld => ?_)
          refine wpAnyH_ready (rs := [36]) (by kernel_rfl) (by simp) ?_
          refine AllReadyH.cons (o := { dst := some 80, op := Op.call { callee := Callee.value (Operand.func 17), args := #[Operand.tmp 77, Operand.tmp 79], argTypes := #[25, 25] }, type := 4, pos := _, after := _, guard := some (31, true) }) rfl (fun K hK => ?_) AllReadyH.nil
          go_simp
          refine (same_new1 hN16 ai).mono ?_
          rintro e u5 ⟨rfl, k5⟩
          have b5 : Below w4.heap.size w4 u5 := later b4 k5
          go_wp2_with fail
          refine hK.out _ _ trivial (fun hHeld => ?_)
          refine wpAnyH_take (i := 37) (oi := { dst := some 81, op := Op.pick (Operand.tmp 75) (Operand.tmp 80) (Operand.const (Value.bool false)), type := 4, pos := _, after := _, guard := none }) (v := .bool true) rfl (by kernel_rfl) (by kernel_rfl) (by kernel_rfl) (fun _ _ _ h => h) (Or.inl ⟨by rfl, fun w hSw => ?_⟩) (by assumption) ?_
          · go_simp
          simp only [Act.put, List.setIfInBounds_toArray, List.set_cons_zero, List.set_cons_succ]
          refine wpAnyH_take (i := 38) (oi := { dst := some 4, op := Op.assign (Operand.tmp 81), type := 4, pos := _, after := _, guard := none }) (v := .bool true) rfl (by kernel_rfl) (by kernel_rfl) (by kernel_rfl) (fun _ _ _ h => h) (Or.inl ⟨by rfl, fun w hSw => ?_⟩) (by assumption) ?_
          · go_simp
          simp only [Act.put, List.setIfInBounds_toArray, List.set_cons_zero, List.set_cons_succ]
          refine wpAnyH_done (by kernel_rfl) ?_ _
          go_wp2_with fail
          go_ret
          exact ⟨rfl, later HB4.out b5⟩
        · go_simp
          refine hK.out _ _ trivial (fun hHeld => ?_)
          refine wpAnyH_ready (rs := [33]) (by kernel_rfl) (by simp) ?_
          refine AllReadyH.cons (o := { dst := some 77, op := Op.call { callee := Callee.value (Operand.func 14), args := #[Operand.tmp 76], argTypes := #[22] }, type := 25, pos := _, after := _, guard := some (31, true) }) rfl (fun K hK => ?_) AllReadyH.nil
          go_simp
          refine (accepts_any (HG.out _ (later b3 (fresh u3 _)))).mono ?_
          rintro e u4 ⟨ab, ac, rfl, _, ai, k4⟩
          have b4 : Below w4.heap.size w4 u4 := later (later b3 (fresh _ _)) k4
          go_wp2_with fail
          refine hK.out _ _ trivial (fun hHeld => ?_)
          refine wpAnyH_ready (rs := [36]) (by kernel_rfl) (by simp) ?_
          refine AllReadyH.cons (o := { dst := some 80, op := Op.call { callee := Callee.value (Operand.func 17), args := #[Operand.tmp 77, Operand.tmp 79], argTypes := #[25, 25] }, type := 4, pos := _, after := _, guard := some (31, true) }) rfl (fun K hK => ?_) AllReadyH.nil
          go_simp
          refine (same_new2 hN16 k4 ai).mono ?_
          rintro e u5 ⟨rfl, k5⟩
          have b5 : Below w4.heap.size w4 u5 := later b4 k5
          go_wp2_with fail
          refine hK.out _ _ trivial (fun hHeld => ?_)
          refine wpAnyH_take (i := 37) (oi := { dst := some 81, op := Op.pick (Operand.tmp 75) (Operand.tmp 80) (Operand.const (Value.bool false)), type := 4, pos := _, after := _, guard := none }) (v := .bool true) rfl (by kernel_rfl) (by kernel_rfl) (by kernel_rfl) (fun _ _ _ h => h) (Or.inl ⟨by rfl, fun w hSw => ?_⟩) (by assumption) ?_
          · go_simp
          simp only [Act.put, List.setIfInBounds_toArray, List.set_cons_zero, List.set_cons_succ]
          refine wpAnyH_take (i := 38) (oi := { dst := some 4, op := Op.assign (Operand.tmp 81), type := 4, pos := _, after := _, guard := none }) (v := .bool true) rfl (by kernel_rfl) (by kernel_rfl) (by kernel_rfl) (fun _ _ _ h => h) (Or.inl ⟨by rfl, fun w hSw => ?_⟩) (by assumption) ?_
          · go_simp
          simp only [Act.put, List.setIfInBounds_toArray, List.set_cons_zero, List.set_cons_succ]
          refine wpAnyH_done (by kernel_rfl) ?_ _
          go_wp2_with fail
          go_ret
          exact ⟨rfl, later HB4.out b5⟩
end Go.Proofs.YtlojadodabddpaaDoor
