/-
  The law MaskTwice of package shunterlaw09: turned twice rows are what they were. Conditions: that the table of math/bits holds what its initialiser lays.
-/
import Derived.Test.YtakmbemlmpaknaaDoorMaskTurnedWalk
namespace Go.Proofs.YtakmbemlmpaknaaDoor
open Go.ChangeShapes Go.WideShapes Go.ChangeAt Go.RowKit
set_option linter.unusedVariables false

theorem turn_twice {l : List Nat} {N : Nat} (hl : l.length = N) (hN : N ≤ 16) (hs : ∀ x ∈ l, x < 2 ^ N) : Mask.turn (Mask.turn l N) N = l := by
  apply List.ext_getElem
  · rw [Mask.turn_len, hl]
  · intro i h1 h2
    have hi : i < N := by rw [Mask.turn_len] at h1; exact h1
    have e1 : (Mask.turn (Mask.turn l N) N)[i] = (Mask.turn (Mask.turn l N) N).getD i 0 := by simp [List.getD, h1]
    have e2 : l[i] = l.getD i 0 := by simp [List.getD, h2]
    rw [e1, e2, Mask.turn_at hi, Mask.turn_len, show min N 16 = N by omega]
    apply Nat.eq_of_testBit_eq
    intro j
    rw [Mask.col_bit]
    by_cases hj : j < N
    · rw [decide_eq_true hj, Bool.true_and, Mask.turn_at hj, Mask.col_bit, hl, decide_eq_true (show i < min N 16 by omega), Bool.true_and]
    · rw [decide_eq_false hj, Bool.false_and]
      have h3 : l.getD i 0 < 2 ^ N := by rw [← e2]; exact hs _ (List.getElem_mem h2)
      exact (Nat.testBit_lt_two_pow (Nat.lt_of_lt_of_le h3 (Nat.pow_le_pow_right (by omega) (by omega)))).symm
theorem low_hit {x j : Nat} (h : x.testBit j = true) : x % 2 ^ (j + 1) = x % 2 ^ j + 2 ^ j := by
  have e := Nat.testBit_eq_decide_div_mod_eq (x := x) (i := j)
  rw [h] at e
  have e2 : x / 2 ^ j % 2 = 1 := of_decide_eq_true e.symm
  rw [Nat.mod_pow_succ, e2, Nat.mul_one]
theorem low_miss {x j : Nat} (h : x.testBit j = false) : x % 2 ^ (j + 1) = x % 2 ^ j := by
  have e := Nat.testBit_eq_decide_div_mod_eq (x := x) (i := j)
  rw [h] at e
  have e2 : x / 2 ^ j % 2 = 0 := by have := of_decide_eq_false e.symm; omega
  rw [Nat.mod_pow_succ, e2, Nat.mul_zero, Nat.add_zero]
/-- the first i rows, without bits from N on -/
def square (rows : List Nat) (N i : Nat) : List Nat := (rows.take i).map fun x => x % 2 ^ N
theorem square_len {rows : List Nat} {N i : Nat} (h : i ≤ rows.length) : (square rows N i).length = i := by simp [square]; omega
theorem square_snoc {rows : List Nat} {N i : Nat} (h : i < rows.length) : square rows N (i + 1) = square rows N i ++ [rows.getD i 0 % 2 ^ N] := by
  unfold square
  rw [List.take_succ_eq_append_getElem h, List.map_append]
  simp [List.getD, h]
theorem square_lt {rows : List Nat} {N i x : Nat} (h : x ∈ square rows N i) : x < 2 ^ N := by
  obtain ⟨y, _, rfl⟩ := List.mem_map.1 h
  exact Nat.mod_lt _ (Nat.two_pow_pos N)

theorem nums_cap {κ : IntKind} {w : World} {base : Nat} {e : TypeId} {v : Value} {l : List Nat} (h : w.ownsRow base e 1 v l.length (cellsK κ l)) : ∃ a cap, v = .slice a l.length cap ∧ Nums κ w a l.length l ∧ l.length ≤ cap ∧ cap ≤ maxLen := by
  obtain ⟨a, cap, hv, hn⟩ := nums_of_owns h
  refine ⟨a, cap, hv, hn, ?_⟩
  rcases h.2 with ⟨hv2, h0⟩ | ⟨g, cap2, cur, hv2, hb, hg, hnc, hcm, hcs, htake⟩
  · rw [hv] at hv2
    simp only [Value.slice.injEq] at hv2
    rw [hv2.2.2, h0]
    exact ⟨Nat.le_refl _, Nat.zero_le _⟩
  · rw [hv] at hv2
    simp only [Value.slice.injEq] at hv2
    rw [hv2.2.2]
    exact ⟨hnc, hcm⟩

set_option maxRecDepth 100000 in
set_option maxHeartbeats 1000000 in
theorem maskTwice_any (w : World) (hT : Tab w) (a : Option Addr) (len cap : Nat) (rows : List Nat) (hr : Nums .u16 w a len rows) (hl : ∀ x ∈ rows, x < 65536) (hc : len ≤ cap) (hcm : cap ≤ 140737488351232) (k0 : Int) (wk : (Lit.int .u8 k0).wf = true) :
    Calls Tryd.prog 8 #[.slice a len cap, .int .u8 k0] w fun e w' => e = .returned (.bool true) ∧ Below w.heap.size w w' := by
  obtain ⟨k, rfl, hk⟩ := nat_u8 wk
  obtain ⟨N, hN, hN1, hN16⟩ := size_of k
  have HT : Hid (Tab w) := hT
  have HR : Hid (Nums .u16 w a len rows) := hr
  have HL : Hid (∀ x ∈ rows, x < 65536) := hl
  have HLen : Hid (rows.length = len) := hr.1
  have h0 := hT.lt
  clear hT hr wk hl
  by_cases hN2 : len < N
  · have d1 : decide ((len : Int) < (N : Int)) = true := decide_eq_true (by omega)
    have d2 : decide (len < N) = true := decide_eq_true hN2
    go_enter Tryd.func8, Tryd.ntmps8
    go_wp2_with fail
    refine (known_any _ HT.out).mono ?_
    rintro e w1 ⟨rfl, b1⟩
    go_wp2_with fail
    go_ret
    exact ⟨rfl, b1⟩
  · have d1 : decide ((len : Int) < (N : Int)) = false := decide_eq_false (by omega)
    have d2 : decide (len < N) = false := decide_eq_false hN2
    by_cases h100 : 100 < len
    · have d3 : decide ((100 : Int) < (len : Int)) = true := decide_eq_true (by omega)
      go_enter Tryd.func8, Tryd.ntmps8
      go_wp2_with fail
      refine (known_any _ HT.out).mono ?_
      rintro e w1 ⟨rfl, b1⟩
      go_wp2_with fail
      go_ret
      exact ⟨rfl, b1⟩
    · have d3 : decide ((100 : Int) < (len : Int)) = false := decide_eq_false (by omega)
      obtain ⟨i0, hi0, hz0, hz1, hz2⟩ := info_parts infoM
      go_enter Tryd.func8, Tryd.ntmps8
      go_wp2_with fail
      refine (known_any _ HT.out).mono ?_
      rintro e w1 ⟨rfl, b1⟩
      have B1 : Hid (Below w.heap.size w w1) := b1
      have hs1 := b1.size
      clear b1
      go_wp2_with fail
      go_loopw [6, 7] (fun v j wr => ∃ i : Nat, i ≤ N ∧ j = .int .i64 i ∧ wr.ownsRow w1.heap.size 22 1 v i (cellsK .u16 (square rows N i)) ∧ Below w1.heap.size w1 wr) (fun _ j _ => N - (intOf j).toNat)
      case atStart => exact ⟨0, Nat.zero_le _, rfl, World.ownsRow_nil _ _ _ _, Below.refl _ _⟩
      case round =>
        obtain ⟨i, hi, rfl, hrow, hB⟩ := hrel
        have HRow : Hid (wr.ownsRow w1.heap.size 22 1 u6 i (cellsK .u16 (square rows N i))) := hrow
        have HB : Hid (Below w1.heap.size w1 wr) := hB
        have hsz := hB.size
        clear hrow hB
        by_cases hiN : i < N
        · obtain ⟨p, op, rfl, hx⟩ := (HR.out.below (later B1.out HB.out)).at (show i < len by omega)
          obtain ⟨x, hx2⟩ : ∃ x, rows.getD i 0 = x := ⟨_, rfl⟩
          have hx16 : x < 65536 := by rw [← hx2]; exact getD_lt HL.out (by omega)
          rw [hx2] at hx
          have HX : Hid (rows.getD i 0 = x) := hx2
          clear hx2
          go_wp2_with fail
          go_loopw [8, 9] (fun y v wr' => ∃ j : Nat, j ≤ N ∧ v = .int .i64 j ∧ y = .int .u16 (x % 2 ^ j : Nat) ∧ wr' = wr) (fun _ v _ => N - (intOf v).toNat)
          case atStart => exact ⟨0, Nat.zero_le _, rfl, by rw [Nat.pow_zero, Nat.mod_one]; rfl, rfl⟩
          case round =>
            obtain ⟨j, hj, rfl, rfl, hwr⟩ := hrel
            obtain rfl := hwr.symm
            clear hwr
            obtain ⟨s, hs⟩ : ∃ s, x % 2 ^ j = s := ⟨_, rfl⟩
            have hs16 : s ≤ x := by rw [← hs]; exact Nat.mod_le _ _
            have HS : Hid (x % 2 ^ j = s) := hs
            rw [hs]
            clear hs
            by_cases hjN : j < N
            · have hb := hasB_nat (m := x) (show j < 16 by omega)
              obtain ⟨t, ht⟩ : ∃ t, x.testBit j = t := ⟨_, rfl⟩
              rw [ht] at hb
              cases t with
              | false =>
                have HE : Hid (x % 2 ^ (j + 1) = s) := by rw [← HS.out]; exact low_miss ht
                clear ht
                go_wp2_with (go_at_call 16; refine (refHas_any x hx16 _ _).mono ?_; rintro e w' ⟨rfl, hq⟩; obtain rfl := hq.symm; clear hq)
                go_roundw
                case rel => exact ⟨j + 1, by omega, by go_num, by rw [HE.out], by first | rfl | trivial⟩
                case measure => simp [intOf]; omega
              | true =>
                obtain ⟨q, hq2⟩ : ∃ q, 2 ^ j = q := ⟨_, rfl⟩
                have he : x % 2 ^ (j + 1) = s + q := by rw [← HS.out, ← hq2]; exact low_hit ht
                have hle : s + q ≤ x := by rw [← he]; exact Nat.mod_le _ _
                have HE : Hid (x % 2 ^ (j + 1) = s + q) := he
                have eq2 : ((2 : Int) ^ j) = (q : Nat) := by rw [← hq2]; simp
                clear ht he hq2
                go_wp2_with (first | (go_at_call 16; refine (refHas_any x hx16 _ _).mono ?_; rintro e w' ⟨rfl, hq⟩; obtain rfl := hq.symm; clear hq) | (go_at_call 25; refine (refBit_any j (by omega) _).mono ?_; rintro e w' ⟨rfl, hq⟩; obtain rfl := hq.symm; clear hq))
                go_roundw
                case rel => exact ⟨j + 1, by omega, by go_num, by rw [HE.out]; go_num, by first | rfl | trivial⟩
                case measure => simp [intOf]; omega
            · obtain rfl : j = N := by omega
              go_wp2_with (at_builtin; refine wpList_append_own _ rfl _ _ 27 rfl w1.heap.size 22 i0 _ 1 2 Tryd.underlying27 hi0 hz0 hz1 hz2 rfl (by decide) u6 i (cellsK .u16 (square rows j i)) rfl (HRow.out.alloc _) ⟨wr.heap.size, 0, none⟩ 1 1 [.int .u16 (s : Nat)] rfl rfl (one_cell .u16 _ wr s) (one_one _ _) (by unfold maxLen; omega) (by omega) (by simp; omega) ?_; intro v' u2 hown hg hnil)
              exact ⟨⟨i + 1, by omega, by go_num, by rw [square_snoc (by rw [HLen.out]; omega), ← cellsK_snoc, HX.out, HS.out]; exact hown, below_grown HB.out HRow.out _ hsz hg⟩, by simp [intOf]; omega⟩
        · obtain rfl : i = N := by omega
          have hle := square_len (rows := rows) (N := i) (i := i) (by rw [HLen.out]; omega)
          obtain ⟨l, hl⟩ : ∃ l, square rows i i = l := ⟨_, rfl⟩
          have hown := HRow.out
          have hsm : ∀ x ∈ l, x < 2 ^ i := fun x hx => square_lt (by rw [hl]; exact hx)
          have htw := turn_twice (l := l) (N := i) (by rw [← hl]; exact hle) hN16 hsm
          rw [hl] at hle hown
          rw [← hle] at hown
          obtain ⟨x3, c3, hv, hn3, hlc, hcm3⟩ := nums_cap hown
          rw [hle] at hv hn3 hlc
          subst hv
          have N3 : Hid (Nums .u16 wr x3 i l) := hn3
          have HLe : Hid (l.length = i) := hle
          have HTw : Hid (Mask.turn (Mask.turn l i) i = l) := htw
          have HSm : Hid (∀ x ∈ l, x < 65536) := fun x hx => Nat.lt_of_lt_of_le (hsm x hx) (Nat.pow_le_pow_right (j := 16) (by omega) hN16)
          have hc9 : c3 ≤ 9223372036854775807 := by unfold maxLen at hcm3; omega
          clear hown hn3 hle htw hsm hl hcm3 HRow
          go_wp2_with fail
          refine (turn_any x3 i c3 hlc hc9 l HSm.out (i : Nat) _ N3.out (HT.out.below (later B1.out HB.out) h0)).mono ?_
          rintro e w4 ⟨x4, c4, rfl, hc4, hc4b, n4, b4⟩
          rw [turnL_in ⟨hN1, hN16⟩, Mask.turn_len] at n4 hc4
          rw [turnL_in ⟨hN1, hN16⟩, Mask.turn_len]
          have N4 : Hid (Nums .u16 w4 x4 i (Mask.turn l i)) := n4
          have B4 : Hid (Below w.heap.size w w4) := later (later B1.out HB.out) b4
          have N34 : Hid (Nums .u16 w4 x3 i l) := N3.out.below b4
          clear n4 b4
          go_wp2_with fail
          refine (turn_any x4 i c4 hc4 (by omega) (Mask.turn l i) (fun x hx => Mask.turn_lt hx) (i : Nat) _ N4.out (HT.out.below B4.out h0)).mono ?_
          rintro e w5 ⟨x5, c5, rfl, hc5, hc5b, n5, b5⟩
          rw [turnL_in ⟨hN1, hN16⟩, HTw.out, HLe.out] at n5
          rw [turnL_in ⟨hN1, hN16⟩, HTw.out, HLe.out]
          have N5 : Hid (Nums .u16 w5 x5 i l) := n5
          have N35 : Hid (Nums .u16 w5 x3 i l) := N34.out.below b5
          have B5 : Hid (Below w.heap.size w w5) := later B4.out b5
          clear n5 b5
          go_wp2_with fail
          refine (alike_any x5 x3 i c5 c3 l _ N5.out N35.out).mono ?_
          rintro e w6 ⟨rfl, b6⟩
          go_wp2_with fail
          go_ret
          exact ⟨rfl, later B5.out b6⟩
end Go.Proofs.YtakmbemlmpaknaaDoor
