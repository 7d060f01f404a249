/-
  The document's own arbiter (package shunterref10): who asks for an output, whether it is taken, what is granted. Conditions: none but that the slices lead to masks and to numbers.
-/
import Derived.Test.YtlojadodabddpaaDoorIslArg
namespace Go.Proofs.YtlojadodabddpaaDoor
open Go.ChangeShapes Go.WideShapes Go.ChangeAt Go.RowKit
set_option linter.unusedVariables false

namespace Isl
/-- input i is free, and asks for output o -/
def wants (R : Nat → Nat) (m : Nat → Int) (o i : Nat) : Bool := decide (m i < 0) && (R i).testBit o
def wg (R : Nat → Nat) (m : Nat → Int) (o : Nat) : Nat → Int := fun i => if wants R m o i = true then 0 else -1
/-- the first k inputs that are free, and ask for output o, as a mask -/
def wm (R : Nat → Nat) (m : Nat → Int) (o k : Nat) : Nat := offs (wg R m o) k 0
theorem wm_hit {R : Nat → Nat} {m : Nat → Int} {o k : Nat} (h : wants R m o k = true) : wm R m o (k + 1) = wm R m o k + 2 ^ k := by
  unfold wm
  rw [offs, if_pos]
  unfold wg
  rw [if_pos h]; rfl
theorem wm_miss {R : Nat → Nat} {m : Nat → Int} {o k : Nat} (h : wants R m o k = false) : wm R m o (k + 1) = wm R m o k := by
  unfold wm
  rw [offs, if_neg, Nat.add_zero]
  unfold wg
  rw [if_neg (by simp [h])]
  omega
theorem wm_bit (R : Nat → Nat) (m : Nat → Int) (o k i : Nat) : (wm R m o k).testBit i = (decide (i < k) && wants R m o i) := by
  unfold wm
  rw [offs_bit]
  congr 1
  unfold wg
  cases wants R m o i <;> simp
theorem grant_ref {R G : Nat → Nat} {n : Nat} {m : Nat → Int} {o : Nat} : grant R G n m o = if taken n m o = true then -1 else Mask.pick (wm R m o n) (G o) n := by
  by_cases h : taken n m o = true
  · rw [if_pos h]
    rcases grant_cases (R := R) (G := G) (n := n) (m := m) o with ⟨e, _⟩ | ⟨i, hi, e, ha⟩
    · exact e
    · have := (ask_free ha).2.2
      rw [h] at this; cases this
  · rw [if_neg h, pick_eq]
    unfold grant
    refine pickP_congr (fun i hi => ?_)
    rw [wm_bit, decide_eq_true hi, Bool.true_and]
    unfold ask wants
    have : taken n m o = false := by simpa using h
    rw [this]
    simp
end Isl
set_option maxRecDepth 100000 in
set_option maxHeartbeats 1000000 in
theorem asks_any {w : World} {x y : Option Addr} {n cx cy : Nat} {rows : List Nat} {m : Nat → Int} (hn : n ≤ 16) (o : Nat) (ho : o < n) (hl : ∀ x ∈ rows, x < 65536) (hr : Nums .u16 w x n rows) (hm : Led w y n m) :
    Calls Tryd.prog 36 #[.slice x n cx, .slice y n cy, .int .i64 (o : Nat)] w fun e w' => e = .returned (.int .u16 (Isl.wm (fun i => rows.getD i 0) m o n : Nat)) ∧ w' = w := by
  have HR : Hid (Nums .u16 w x n rows) := hr
  have HM : Hid (Led w y n m) := hm
  have HL : Hid (∀ x ∈ rows, x < 65536) := hl
  clear hr hm hl
  go_enter Tryd.func36, Tryd.ntmps36
  go_wp2_with fail
  go_loopw [7, 8] (fun v j wr => ∃ k : Nat, k ≤ n ∧ v = .int .u16 (Isl.wm (fun i => rows.getD i 0) m o k : Nat) ∧ j = .int .i64 k ∧ wr = w) (fun _ j _ => n - (intOf j).toNat)
  case atStart => exact ⟨0, Nat.zero_le _, rfl, rfl, rfl⟩
  case round =>
    obtain ⟨k, hk, rfl, rfl, rfl⟩ := hrel
    have hlt := Isl.offs_lt (Isl.wg (fun i => rows.getD i 0) m o) k 0
    obtain ⟨q, hq⟩ : ∃ q, Isl.wm (fun i => rows.getD i 0) m o k = q := ⟨_, rfl⟩
    have HQ : Hid (Isl.wm (fun i => rows.getD i 0) m o k = q) := hq
    have hlt2 : q < 2 ^ k := by rw [← hq]; exact hlt
    rw [hq]
    clear hq hlt
    by_cases hkn : k < n
    · obtain ⟨b, off, rfl, hx⟩ := HR.out.at hkn
      obtain ⟨c, off', rfl, hy⟩ := HM.out.at hkn
      obtain ⟨z, hz⟩ : ∃ z, rows.getD k 0 = z := ⟨_, rfl⟩
      obtain ⟨X, hX⟩ : ∃ X, m k = X := ⟨_, rfl⟩
      have hz16 : z < 65536 := by
        rw [← hz, List.getD_eq_getElem?_getD]
        by_cases h : k < rows.length
        · rw [List.getElem?_eq_getElem h]; exact HL.out _ (List.getElem_mem h)
        · rw [List.getElem?_eq_none (by omega)]; exact Nat.zero_lt_succ _
      rw [hz] at hx
      rw [hX] at hy
      have hbt := hasB_nat (m := z) (i := o) (by omega)
      have hw : Isl.wants (fun i => rows.getD i 0) m o k = (decide (X < 0) && z.testBit o) := by
        unfold Isl.wants
        dsimp only
        rw [hX, hz]
      have HW : Hid (Isl.wants (fun i => rows.getD i 0) m o k = (decide (X < 0) && z.testBit o)) := hw
      obtain ⟨tb, htb⟩ : ∃ tb, z.testBit o = tb := ⟨_, rfl⟩
      rw [htb] at hbt
      have HTB : Hid (z.testBit o = tb) := htb
      clear hw hz hX htb
      have hp : (2 : Nat) ^ k ≤ 32768 := Nat.pow_le_pow_right (j := 15) (by omega) (by omega)
      obtain ⟨p, hp2⟩ : ∃ p, 2 ^ k = p := ⟨_, rfl⟩
      rw [hp2] at hp hlt2
      have HP : Hid (2 ^ k = p) := hp2
      have e2 : ((2 : Int) ^ k) = ((p : Nat) : Int) := by rw [← hp2]; simp
      clear hp2
      by_cases hX0 : X < 0
      · have dX : decide (X < 0) = true := decide_eq_true hX0
        cases tb with
        | true =>
          go_wp2_with (first | (go_at_call 21; refine (refHas_any z hz16 _ _).mono ?_; rintro e w' ⟨rfl, hq⟩; obtain rfl := hq.symm; clear hq) | (go_at_call 15; refine (refBit_any k (by omega) _).mono ?_; rintro e w' ⟨rfl, hq⟩; obtain rfl := hq.symm; clear hq))
          go_roundw
          case rel => exact ⟨k + 1, by omega, by rw [Isl.wm_hit (by rw [HW.out, dX, HTB.out]; rfl), HQ.out, HP.out]; go_num, by go_num, by first | rfl | trivial⟩
          case measure => simp [intOf]; omega
        | false =>
          go_wp2_with (go_at_call 21; refine (refHas_any z hz16 _ _).mono ?_; rintro e w' ⟨rfl, hq⟩; obtain rfl := hq.symm; clear hq)
          go_roundw
          case rel => exact ⟨k + 1, by omega, by rw [Isl.wm_miss (by rw [HW.out, HTB.out, Bool.and_false]), HQ.out], by go_num, by first | rfl | trivial⟩
          case measure => simp [intOf]; omega
      · have dX : decide (X < 0) = false := decide_eq_false hX0
        go_wp2_with fail
        go_roundw
        case rel => exact ⟨k + 1, by omega, by rw [Isl.wm_miss (by rw [HW.out, dX, Bool.false_and]), HQ.out], by go_num, by first | rfl | trivial⟩
        case measure => simp [intOf]; omega
    · obtain rfl : k = n := by omega
      go_wp2_with fail
      go_ret
      exact ⟨ret_int (by rw [HQ.out]), rfl⟩
theorem taken_next (k : Nat) (m : Nat → Int) (o : Nat) : Isl.taken (k + 1) m o = (Isl.taken k m o || decide (m k = (o : Nat))) := by
  simp [Isl.taken, List.range_succ]
theorem taken_more {k n : Nat} {m : Nat → Int} {o : Nat} (hk : k < n) (h : m k = (o : Nat)) : Isl.taken n m o = true := Isl.taken_iff.2 ⟨k, hk, h⟩
set_option maxRecDepth 100000 in
set_option maxHeartbeats 1000000 in
theorem taken_any {w : World} {y : Option Addr} {n cy : Nat} {m : Nat → Int} (hn : n ≤ 16) (o : Nat) (hm : Led w y n m) :
    Calls Tryd.prog 37 #[.slice y n cy, .int .i64 (o : Nat)] w fun e w' => e = .returned (.bool (Isl.taken n m o)) ∧ w' = w := by
  have HM : Hid (Led w y n m) := hm
  clear hm
  go_enter Tryd.func37, Tryd.ntmps37
  go_wp2_with fail
  go_loopw [5] (fun j wr => ∃ k : Nat, k ≤ n ∧ j = .int .i64 k ∧ wr = w ∧ Isl.taken k m o = false) (fun j _ => n - (intOf j).toNat)
  case atStart => exact ⟨0, Nat.zero_le _, rfl, rfl, rfl⟩
  case round =>
    obtain ⟨k, hk, rfl, rfl, hno⟩ := hrel
    have HN : Hid (Isl.taken k m o = false) := hno
    clear hno
    by_cases hkn : k < n
    · obtain ⟨c, off', rfl, hy⟩ := HM.out.at hkn
      obtain ⟨X, hX⟩ : ∃ X, m k = X := ⟨_, rfl⟩
      rw [hX] at hy
      have HX : Hid (m k = X) := hX
      clear hX
      by_cases e : X = (o : Nat)
      · have eb : (X == (o : Int)) = true := by simp [e]
        have HE : Hid (X = (o : Nat)) := e
        clear e
        go_wp2_with fail
        go_ret
        exact ⟨ret_bool (taken_more hkn (by rw [HX.out]; exact HE.out)).symm, rfl⟩
      · have eb : (X == (o : Int)) = false := by simp [e]
        have HE : Hid (X ≠ (o : Nat)) := e
        clear e
        go_wp2_with fail
        go_roundw
        case rel => exact ⟨k + 1, by omega, by go_num, by first | rfl | trivial, by rw [taken_next, HN.out, HX.out, decide_eq_false HE.out]; rfl⟩
        case measure => simp [intOf]; omega
    · obtain rfl : k = n := by omega
      go_wp2_with fail
      go_ret
      exact ⟨ret_bool HN.out.symm, rfl⟩
end Go.Proofs.YtlojadodabddpaaDoor
