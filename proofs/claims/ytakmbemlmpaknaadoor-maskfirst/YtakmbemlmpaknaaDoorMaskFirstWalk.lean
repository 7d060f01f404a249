/-
  The law MaskFirst of package shunterlaw09: what is picked is in the mask, nothing between it and where it was sought from is, none is picked just if there is none. Conditions: that the table of math/bits holds what its initialiser lays.
-/
import Derived.Test.YtakmbemlmpaknaaDoorMaskTurnedWalk
namespace Go.Proofs.YtakmbemlmpaknaaDoor
open Go.ChangeShapes Go.WideShapes Go.ChangeAt Go.RowKit
set_option linter.unusedVariables false

/-- the two ways of Pick -/
theorem pick_ways (m f n : Nat) : ∀ d k, k + d = n → (∀ s, s < k → m.testBit ((f + s) % n) = false) → (Mask.pick m f n = -1 ∧ ∀ s, s < n → m.testBit ((f + s) % n) = false) ∨ ∃ t, t < n ∧ Mask.pick m f n = ((f + t) % n : Nat) ∧ (∀ s, s < t → m.testBit ((f + s) % n) = false) ∧ m.testBit ((f + t) % n) = true
  | 0, k, hk, h => by
    obtain rfl : k = n := by omega
    exact .inl ⟨Mask.pick_none h, h⟩
  | d + 1, k, hk, h => by
    cases hb : m.testBit ((f + k) % n) with
    | true => exact .inr ⟨k, by omega, Mask.pick_some (by omega) h hb, h, hb⟩
    | false =>
      exact pick_ways m f n d (k + 1) (by omega) (fun s hs => by
        rcases Nat.lt_or_ge s k with h' | h'
        · exact h s h'
        · obtain rfl : s = k := by omega
          exact hb)
/-- round, each place is met -/
theorem round_all {f n i : Nat} (hf : f < n) (hi : i < n) : ∃ s, s < n ∧ (f + s) % n = i := by
  rcases Nat.lt_or_ge i f with h | h
  · refine ⟨i + n - f, by omega, ?_⟩
    rw [show f + (i + n - f) = i + n by omega, Nat.add_mod_right, Nat.mod_eq_of_lt hi]
  · refine ⟨i - f, by omega, ?_⟩
    rw [show f + (i - f) = i by omega, Nat.mod_eq_of_lt hi]
/-- how far round a place is -/
theorem round_far {f n s : Nat} (hf : f < n) (hs : s < n) : ((f + s) % n + n - f) % n = s := by
  rcases Nat.lt_or_ge (f + s) n with h | h
  · rw [Nat.mod_eq_of_lt h, show f + s + n - f = s + n by omega, Nat.add_mod_right, Nat.mod_eq_of_lt hs]
  · rw [Nat.mod_eq_sub_mod h, Nat.mod_eq_of_lt (show f + s - n < n by omega), show f + s - n + n - f = s by omega, Nat.mod_eq_of_lt hs]
theorem round_next (f n s : Nat) : ((f + s) % n + 1) % n = (f + (s + 1)) % n := by
  rw [Nat.mod_add_mod, Nat.add_assoc]

set_option maxRecDepth 100000 in
set_option maxHeartbeats 1000000 in
theorem maskFirst_any (w : World) (hT : Tab w) (m0 : Int) (wm : (Lit.int .u16 m0).wf = true) (a0 : Int) (wa : (Lit.int .u8 a0).wf = true) (b0 : Int) (wb : (Lit.int .u8 b0).wf = true) :
    Calls Tryd.prog 9 #[.int .u16 m0, .int .u8 a0, .int .u8 b0] w fun e w' => e = .returned (.bool true) ∧ Below w.heap.size w w' := by
  obtain ⟨m, rfl, hm⟩ := nat_u16 wm
  obtain ⟨a, rfl, ha⟩ := nat_u8 wa
  obtain ⟨b, rfl, hb⟩ := nat_u8 wb
  obtain ⟨N, hN, hN1, hN16⟩ := size_of b
  have HT : Hid (Tab w) := hT
  have h0 := hT.lt
  obtain ⟨F, hF, hFN⟩ : ∃ F : Nat, (a : Int) % (N : Int) = (F : Nat) ∧ F < N := ⟨a % N, by simp, Nat.mod_lt _ (by omega)⟩
  have hN0 : (N : Int) ≠ 0 := by omega
  have hpv := pickV_in (m := m) hN16 hFN
  clear hT wm wa wb
  rcases pick_ways m F N N 0 (by omega) (fun s hs => absurd hs (by omega)) with ⟨hp, hno⟩ | ⟨t, ht, hp, hno, hyes⟩
  · rw [hp] at hpv
    have HN : Hid (∀ s, s < N → m.testBit ((F + s) % N) = false) := hno
    clear hno hp
    go_enter Tryd.func9, Tryd.ntmps9
    go_wp2_with fail
    refine (pick_any m hm _ _ _).mono ?_
    rintro e w1 ⟨rfl, b1⟩
    have B1 : Hid (Below w.heap.size w w1) := b1
    clear b1
    go_wp2_with fail
    go_loopw [10] (fun v wr => ∃ i : Nat, i ≤ N ∧ v = .int .i64 i ∧ Below w1.heap.size w1 wr) (fun v _ => N - (intOf v).toNat)
    case atStart => exact ⟨0, Nat.zero_le _, rfl, Below.refl _ _⟩
    case round =>
      obtain ⟨i, hi, rfl, hB⟩ := hrel
      have HB : Hid (Below w1.heap.size w1 wr) := hB
      clear hB
      by_cases hiN : i < N
      · have hbit : m.testBit i = false := by
          obtain ⟨s, hs, e⟩ := round_all hFN hiN
          rw [← e]
          exact HN.out s hs
        have hh := hasB_nat (m := m) (show i < 16 by omega)
        rw [hbit] at hh
        clear hbit
        go_wp2_with (go_at_call 13; refine (has_any m hm _ _).mono ?_; rintro e w' ⟨rfl, hq⟩; obtain rfl := hq.symm; clear hq)
        go_roundw
        case rel => exact ⟨i + 1, by omega, by go_num, HB.out⟩
        case measure => simp [intOf]; omega
      · obtain rfl : i = N := by omega
        go_wp2_with fail
        refine (known_any _ (HT.out.below (later B1.out HB.out) h0)).mono ?_
        rintro e w4 ⟨rfl, b4⟩
        go_wp2_with fail
        go_ret
        exact ⟨rfl, later (later B1.out HB.out) b4⟩
  · rw [hp] at hpv
    obtain ⟨k, hk⟩ : ∃ k, (F + t) % N = k := ⟨_, rfl⟩
    have hkN : k < N := by rw [← hk]; exact Nat.mod_lt _ (by omega)
    rw [hk] at hpv hyes
    have HY : Hid ((∀ s, s < t → m.testBit ((F + s) % N) = false) ∧ m.testBit k = true ∧ (F + t) % N = k) := ⟨hno, hyes, hk⟩
    have hh := hasB_nat (m := m) (show k < 16 by omega)
    rw [hyes] at hh
    have d1 : decide ((N : Int) ≤ (k : Int)) = false := decide_eq_false (by omega)
    have d2 : decide (N ≤ k) = false := decide_eq_false (by omega)
    clear hno hyes hk hp
    go_enter Tryd.func9, Tryd.ntmps9
    go_wp2_with fail
    refine (pick_any m hm _ _ _).mono ?_
    rintro e w1 ⟨rfl, b1⟩
    have B1 : Hid (Below w.heap.size w w1) := b1
    clear b1
    go_wp2_with fail
    go_loopw [11] (fun v wr => ∃ s : Nat, s ≤ t ∧ v = .int .i64 ((F + s) % N : Nat) ∧ Below w1.heap.size w1 wr) (fun v _ => t - ((intOf v).toNat + N - F) % N)
    case atStart => exact ⟨0, Nat.zero_le _, by rw [Nat.add_zero, Nat.mod_eq_of_lt hFN], Below.refl _ _⟩
    case round =>
      obtain ⟨s, hs, rfl, hB⟩ := hrel
      have HB : Hid (Below w1.heap.size w1 wr) := hB
      clear hB
      by_cases hst : s < t
      · have hbit := HY.out.1 s hst
        obtain ⟨i, hi⟩ : ∃ i, (F + s) % N = i := ⟨_, rfl⟩
        have hiN : i < N := by rw [← hi]; exact Nat.mod_lt _ (by omega)
        have hfar := round_far hFN (show s < N by omega)
        have hfar2 := round_far hFN (show s + 1 < N by omega)
        have hnext := round_next F N s
        rw [hi] at hbit hfar hnext ⊢
        have hik : i ≠ k := by intro e; rw [e, HY.out.2.1] at hbit; cases hbit
        have hne : ((i : Int) != (k : Int)) = true := by simp; omega
        have hh2 := hasB_nat (m := m) (show i < 16 by omega)
        rw [hbit] at hh2
        obtain ⟨j, hj⟩ : ∃ j, (F + (s + 1)) % N = j := ⟨_, rfl⟩
        rw [hj] at hnext hfar2
        have hmod : ((i : Int) + 1) % (N : Int) = (j : Nat) := by rw [← hnext]; simp
        have HJ : Hid ((F + (s + 1)) % N = j) := hj
        have HF : Hid ((i + N - F) % N = s ∧ (j + N - F) % N = s + 1) := ⟨hfar, hfar2⟩
        clear hi hbit hj hnext hfar hfar2
        go_wp2_with (go_at_call 13; refine (has_any m hm _ _).mono ?_; rintro e w' ⟨rfl, hq⟩; obtain rfl := hq.symm; clear hq)
        go_roundw
        case rel => exact ⟨s + 1, by omega, by rw [HJ.out]; first | rfl | rw [hmod], HB.out⟩
        case measure =>
          have e := HF.out
          first
            | (simp only [intOf, hmod, Int.toNat_natCast]; omega)
            | (simp only [intOf, Int.toNat_natCast]; omega)
      · obtain rfl : s = t := by omega
        rw [HY.out.2.2]
        go_wp2_with fail
        refine (known_any _ (HT.out.below (later B1.out HB.out) h0)).mono ?_
        rintro e w4 ⟨rfl, b4⟩
        go_wp2_with fail
        refine (has_any m hm _ _).mono ?_
        rintro e w5 ⟨rfl, rfl⟩
        go_wp2_with fail
        go_ret
        exact ⟨rfl, later (later B1.out HB.out) b4⟩
end Go.Proofs.YtakmbemlmpaknaaDoor
