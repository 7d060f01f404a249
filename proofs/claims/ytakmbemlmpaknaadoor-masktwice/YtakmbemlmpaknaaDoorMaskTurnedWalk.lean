/-
  The law MaskTurned of package shunterlaw09: a bit is in a column's row just if it is in a row's column. Conditions: that the table of math/bits holds what its initialiser lays.
-/
import Derived.Test.YtakmbemlmpaknaaDoorMaskS
namespace Go.Proofs.YtakmbemlmpaknaaDoor
open Go.ChangeShapes Go.WideShapes Go.ChangeAt Go.RowKit
set_option linter.unusedVariables false

theorem turned_bit {rows : List Nat} {N i j : Nat} (hi : i < rows.length) (h16 : rows.length ≤ 16) (hj : j < N) : ((Mask.turn rows N).getD j 0).testBit i = (rows.getD i 0).testBit j := by
  rw [Mask.turn_at hj, Mask.col_bit, decide_eq_true (show i < min rows.length 16 by omega), Bool.true_and]
theorem getD_lt {l : List Nat} {k n : Nat} (h : ∀ x ∈ l, x < n) (hn : 0 < n) : l.getD k 0 < n := by
  rw [List.getD_eq_getElem?_getD]
  by_cases hk : k < l.length
  · rw [List.getElem?_eq_getElem hk]; exact h _ (List.getElem_mem hk)
  · rw [List.getElem?_eq_none (by omega)]; exact hn

set_option maxRecDepth 100000 in
set_option maxHeartbeats 1000000 in
theorem maskTurned_any (w : World) (hT : Tab w) (a : Option Addr) (len cap : Nat) (rows : List Nat) (hr : Nums .u16 w a len rows) (hl : ∀ x ∈ rows, x < 65536) (hc : len ≤ cap) (hcm : cap ≤ 140737488351232) (k0 : Int) (wk : (Lit.int .u8 k0).wf = true) :
    Calls Tryd.prog 4 #[.slice a len cap, .int .u8 k0] w fun e w' => e = .returned (.bool true) ∧ Below w.heap.size w w' := by
  obtain ⟨k, rfl, hk⟩ := nat_u8 wk
  obtain ⟨N, hN, hN1, hN16⟩ := size_of k
  have HT : Hid (Tab w) := hT
  have HR : Hid (Nums .u16 w a len rows) := hr
  have HL : Hid (∀ x ∈ rows, x < 65536) := hl
  have h0 := hT.lt
  clear hT hr wk hl
  by_cases h100 : 16 < len
  · have d : decide ((16 : Int) < (len : Int)) = true := decide_eq_true (by omega)
    go_enter Tryd.func4, Tryd.ntmps4
    go_wp2_with fail
    refine (known_any _ HT.out).mono ?_
    rintro e w1 ⟨rfl, b1⟩
    go_wp2_with fail
    go_ret
    exact ⟨rfl, b1⟩
  · have d : decide ((16 : Int) < (len : Int)) = false := decide_eq_false (by omega)
    go_enter Tryd.func4, Tryd.ntmps4
    go_wp2_with fail
    refine (known_any _ HT.out).mono ?_
    rintro e w1 ⟨rfl, b1⟩
    go_wp2_with fail
    refine (turn_any a len cap hc (by omega) rows HL.out (N : Nat) _ (HR.out.below b1) (HT.out.below b1 h0)).mono ?_
    rintro e w2 ⟨x2, c2, rfl, _, _, n2, b2⟩
    have B2 : Hid (Below w.heap.size w w2) := later b1 b2
    rw [turnL_in ⟨hN1, hN16⟩, Mask.turn_len] at n2
    rw [turnL_in ⟨hN1, hN16⟩, Mask.turn_len]
    have N2 : Hid (Nums .u16 w2 x2 N (Mask.turn rows N)) := n2
    clear n2 b1 b2
    go_wp2_with fail
    go_loopw [7] (fun v wr => ∃ i : Nat, i ≤ len ∧ v = .int .i64 i ∧ Below w2.heap.size w2 wr) (fun v _ => len - (intOf v).toNat)
    case atStart => exact ⟨0, Nat.zero_le _, rfl, Below.refl _ _⟩
    case round =>
      obtain ⟨i, hi, rfl, hB⟩ := hrel
      have HB : Hid (Below w2.heap.size w2 wr) := hB
      clear hB
      by_cases hil : i < len
      · go_wp2_with fail
        go_loopw [8] (fun v wr => ∃ j : Nat, j ≤ N ∧ v = .int .i64 j ∧ Below w2.heap.size w2 wr) (fun v _ => N - (intOf v).toNat)
        case atStart => exact ⟨0, Nat.zero_le _, rfl, HB.out⟩
        case round =>
          obtain ⟨j, hj, rfl, hB⟩ := hrel
          have HB2 : Hid (Below w2.heap.size w2 wr) := hB
          clear hB HB
          by_cases hjN : j < N
          · obtain ⟨p, op, rfl, hx⟩ := (HR.out.below (later B2.out HB2.out)).at hil
            obtain ⟨q, oq, rfl, hy⟩ := (N2.out.below HB2.out).at hjN
            obtain ⟨x, hx2⟩ : ∃ x, rows.getD i 0 = x := ⟨_, rfl⟩
            obtain ⟨y, hy2⟩ : ∃ y, (Mask.turn rows N).getD j 0 = y := ⟨_, rfl⟩
            have hx16 : x < 65536 := by rw [← hx2]; exact getD_lt HL.out (by omega)
            have hy16 : y < 65536 := by rw [← hy2]; exact getD_lt (fun z hz => Mask.turn_lt hz) (by omega)
            have e1 := turned_bit (rows := rows) (N := N) (i := i) (j := j) (by have := HR.out.1; omega) (by have := HR.out.1; omega) hjN
            rw [hx2, hy2] at e1
            have f1 := hasB_nat (m := x) (i := j) (by omega)
            have f2 := hasB_nat (m := y) (i := i) (by omega)
            rw [e1] at f2
            obtain ⟨t, ht⟩ : ∃ t, x.testBit j = t := ⟨_, rfl⟩
            rw [ht] at f1 f2
            rw [hx2] at hx
            rw [hy2] at hy
            have hne := Since.any wr
            have cx := fun n : Since wr => n.cell hx
            have cy := fun n : Since wr => n.cell hy
            clear hx2 hy2 e1 ht
            go_wp2_with fail
            refine region_since (u := wr) (by kernel_rfl) (by kernel_rfl) (Below.refl _ _) ?_
            repeat (go_big_quiet_step (first | (go_at_call_of 13 (Value.int IntKind.u16 (x : Nat)); exact Since.reads _ (has_any x hx16 _ _)) | (go_at_call_of 13 (Value.int IntKind.u16 (y : Nat)); exact Since.reads _ (has_any y hy16 _ _))))
            refine wpQuiet_nil ?_
            intro _ hw'
            obtain ⟨nq, hw''⟩ := hw'
            subst hw''
            cases t
            all_goals
              go_wp2_with fail
              go_roundw
              case rel => exact ⟨j + 1, by omega, by go_num, later HB2.out nq.h⟩
              case measure => simp [intOf]; omega
          · obtain rfl : j = N := by omega
            go_wp2_with fail
            all_goals first
              | exact ⟨⟨i + 1, by omega, by go_num, HB2.out⟩, by simp [intOf]; omega⟩
              | (go_roundw; (case rel => exact ⟨i + 1, by omega, by go_num, HB2.out⟩); (case measure => simp [intOf]; omega))
      · obtain rfl : i = len := by omega
        go_wp2_with fail
        go_ret
        exact ⟨rfl, later B2.out HB.out⟩
end Go.Proofs.YtakmbemlmpaknaaDoor
