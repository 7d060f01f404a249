/-
  wire.Decode of any bytes comes to the frame whose bytes they are, or to the error. Conditions: none but that the slice leads to bytes.
-/
import Derived.Test.YtmllgbgcageccaaWireF
namespace Go.Proofs.Ytmllgbgcageccaa
open Go.ChangeShapes Go.WideShapes Go.ChangeAt Go.RowKit
set_option linter.unusedVariables false

theorem bcell {W w1 : World} (hb : Below W.heap.size W w1) : (∀ b o, b < W.heap.size → w1.cell? ⟨b, o, none⟩ = W.cell? ⟨b, o, none⟩) ∧ (∀ b o, b < W.heap.size → w1.frozen? ⟨b, o, none⟩ = W.frozen? ⟨b, o, none⟩) :=
  ⟨fun b o h => hb.cell (p := ⟨b, o, none⟩) h, fun b o h => hb.frozen (p := ⟨b, o, none⟩) h⟩
theorem getD_take {l : List Nat} {n i : Nat} (h : i < n) : (l.take n).getD i 0 = l.getD i 0 := by
  simp [List.getD_eq_getElem?_getD, h]
theorem read_back (b off N cap : Nat) (l : List Nat) (w : World) (ho : Octs w (some ⟨b, off, none⟩) (N + 2) l) (hfit : Wire.fits l = true) (hlc : N + 2 ≤ cap) (hm : cap ≤ 9223372036854775807) :
    Calls Try.prog 26 #[.slice (some ⟨b, off, none⟩) N cap] w fun e w' => e = .returned (fr (Wire.back l)) ∧ Below w.heap.size w w' := by
  have hlen := ho.1
  have hb : Wire.back l = Wire.rd (decide (l.getD 0 0 = 1)) (l.take N) := by
    unfold Wire.back; rw [hlen, Nat.add_sub_cancel]
  rw [hb]
  have ot := ho.take (n := N) (by omega)
  rcases Wire.sized hfit with ⟨h1, h2⟩ | ⟨h1, h2⟩
  · rw [show decide (l.getD 0 0 = 1) = false from decide_eq_false h2]
    exact read_short b off N cap (l.take N) w ot (by omega) (by omega) hm (by omega) (by rw [getD_take (by omega)]; exact h2)
  · rw [show decide (l.getD 0 0 = 1) = true from decide_eq_true h2]
    exact read_data b off N cap (l.take N) w ot (by omega) (by omega) hm (by omega) (by rw [getD_take (by omega)]; exact h2)
set_option maxHeartbeats 2000000 in
theorem dec_check (b off N cap : Nat) (l : List Nat) (w : World) (ho : Octs w (some ⟨b, off, none⟩) (N + 2) l) (hN : 4 ≤ N) (hN2 : N ≤ 10) (hlc : N + 2 ≤ cap) (hm : cap ≤ 9223372036854775807) (hfit : Wire.fits l = true) (hck : Wire.checked l = false) :
    Calls Try.prog 19 #[.slice (some ⟨b, off, none⟩) (N + 2 : Nat) cap] w fun e w' => e = .returned (decVal .u16 l) ∧ Below w.heap.size w w' := by
  have hlt : b < w.heap.size := by
    rcases ho.2.2.2 with h | ⟨b', off', e, h, _⟩
    · omega
    · cases e; exact h
  have f0 : w.cell? ⟨b, off, none⟩ = some (.int .u8 (l.getD 0 0 : Nat)) := by
    rcases ho.2.2.2 with h | ⟨b', off', e, h, hc⟩
    · omega
    · cases e; exact hc 0 (by omega)
  have g0 : l.getD 0 0 < 256 := Oct_getD ho.2.2.1 0
  have HS : Hid (((Wire.sizeOf (l.getD 0 0) : Nat) : Int) = (N : Int) + 2) := by
    unfold Wire.fits at hfit
    have := of_decide_eq_true hfit
    have hl := ho.1
    show _ = _
    omega
  rw [bad_val (k := .u16) (l := l) (by unfold Wire.dec; rw [hfit, hck]; rfl)]
  have HQ : Hid (decide (Wire.withCheck (l.take N) = l) = false) := by
    unfold Wire.checked at hck; rw [ho.1, Nat.add_sub_cancel] at hck; exact hck
  have HO : Hid (Octs w (some ⟨b, off, none⟩) (N + 2) l) := ho
  obtain ⟨c0, hc0⟩ : ∃ c, c = l.getD 0 0 := ⟨_, rfl⟩
  rw [← hc0] at f0 g0 HS
  clear hc0 ho hfit hck
  have j0 : (0 : Int) < (N : Int) + 2 := by omega
  have i1 : (N : Int) ≤ cap := by omega
  go_enter Try.func19, Try.ntmps19
  go_wp2_with (first
    | (go_at_call 23; refine (size_is c0 g0 ((N : Int) + 2) HS.out _).mono ?_; rintro e w' ⟨rfl, rfl⟩))
  refine (check_any none (some ⟨b, off, none⟩) N N (l.take N) (by omega) _ (.inr ⟨rfl, (HO.out.below (fresh _ _)).take (by omega), rfl, by omega⟩)).mono ?_
  rintro e w2 ⟨g, c, rfl, o2, m2⟩
  obtain ⟨b2, hg⟩ := m2.below
  have hbel : Below w.heap.size w w2 := later (fresh _ _) b2
  have o3 := (HO.out.below (fresh _ _)).below b2
  clear m2
  go_wp2_with fail
  refine (equal_is _ _ _ _ _ _ (Wire.withCheck (l.take N)) l _ o2.octs o3 false HQ.out).mono ?_
  rintro e w3 ⟨rfl, rfl⟩
  obtain ⟨hc, hf⟩ := bcell b2
  clear o2 o3
  go_wp2_with fail
  exact bodyPost_ret (v := .tuple #[.agg #[.int .u8 0, .int .u8 0, .int .u16 0, .int .u8 0, .int .u8 0, .int .u32 0], .int .u16 30]) (by simp [results, Try.results19, go_sem, hc]) rfl ⟨rfl, (by repeat' (first | (with_reducible exact hbel) | (with_reducible refine Below.setCell ?_ ?_ _) | (with_reducible refine Below.drewN' ?_ _) | (with_reducible refine Below.drew ?_) | (with_reducible refine Below.alloc ?_ ?_ _) | (simp; done) | omega))⟩
set_option maxHeartbeats 2000000 in
theorem dec_sound (b off N cap : Nat) (l : List Nat) (w : World) (ho : Octs w (some ⟨b, off, none⟩) (N + 2) l) (hN : 4 ≤ N) (hN2 : N ≤ 10) (hlc : N + 2 ≤ cap) (hm : cap ≤ 9223372036854775807) (hfit : Wire.fits l = true) (hck : Wire.checked l = true) (hsd : (Wire.back l).sound = false) :
    Calls Try.prog 19 #[.slice (some ⟨b, off, none⟩) (N + 2 : Nat) cap] w fun e w' => e = .returned (decVal .u16 l) ∧ Below w.heap.size w w' := by
  have hlt : b < w.heap.size := by
    rcases ho.2.2.2 with h | ⟨b', off', e, h, _⟩
    · omega
    · cases e; exact h
  have f0 : w.cell? ⟨b, off, none⟩ = some (.int .u8 (l.getD 0 0 : Nat)) := by
    rcases ho.2.2.2 with h | ⟨b', off', e, h, hc⟩
    · omega
    · cases e; exact hc 0 (by omega)
  have g0 : l.getD 0 0 < 256 := Oct_getD ho.2.2.1 0
  have HS : Hid (((Wire.sizeOf (l.getD 0 0) : Nat) : Int) = (N : Int) + 2) := by
    unfold Wire.fits at hfit
    have := of_decide_eq_true hfit
    have hl := ho.1
    show _ = _
    omega
  rw [bad_val (k := .u16) (l := l) (by unfold Wire.dec; rw [hfit, hck, hsd]; rfl)]
  have HQ : Hid (decide (Wire.withCheck (l.take N) = l) = true) := by
    unfold Wire.checked at hck; rw [ho.1, Nat.add_sub_cancel] at hck; exact hck
  have HO : Hid (Octs w (some ⟨b, off, none⟩) (N + 2) l) := ho
  obtain ⟨c0, hc0⟩ : ∃ c, c = l.getD 0 0 := ⟨_, rfl⟩
  rw [← hc0] at f0 g0 HS
  have HV : Hid (Wire.fits l = true ∧ (Wire.back l).sound = false ∧ (Wire.back l).ok) := ⟨hfit, hsd, Wire.back_ok ho.2.2.1⟩
  clear hc0 ho hfit hck hsd
  have j0 : (0 : Int) < (N : Int) + 2 := by omega
  have i1 : (N : Int) ≤ cap := by omega
  go_enter Try.func19, Try.ntmps19
  go_wp2_with (first
    | (go_at_call 23; refine (size_is c0 g0 ((N : Int) + 2) HS.out _).mono ?_; rintro e w' ⟨rfl, rfl⟩))
  refine (check_any none (some ⟨b, off, none⟩) N N (l.take N) (by omega) _ (.inr ⟨rfl, (HO.out.below (fresh _ _)).take (by omega), rfl, by omega⟩)).mono ?_
  rintro e w2 ⟨g, c, rfl, o2, m2⟩
  obtain ⟨b2, hg⟩ := m2.below
  have hbel : Below w.heap.size w w2 := later (fresh _ _) b2
  have o3 := (HO.out.below (fresh _ _)).below b2
  clear m2
  go_wp2_with fail
  refine (equal_is _ _ _ _ _ _ (Wire.withCheck (l.take N)) l _ o2.octs o3 true HQ.out).mono ?_
  rintro e w3 ⟨rfl, rfl⟩
  clear o2
  go_wp2_with fail
  refine (read_back b off N cap l _ o3 HV.out.1 hlc hm).mono ?_
  rintro e w4 ⟨rfl, b4⟩
  have hbel4 : Below w.heap.size w w4 := later hbel b4
  obtain ⟨F, hF⟩ : ∃ F, F = Wire.back l := ⟨_, rfl⟩
  rw [← hF] at HV
  rw [← hF]
  clear hF
  obtain ⟨fk, fl, fs, fa, fb, fx⟩ := F
  unfold fr
  simp only
  go_wp2_with fail
  refine (sound_is ⟨fk, fl, fs, fa, fb, fx⟩ HV.out.2.2 false HV.out.2.1 _).mono ?_
  rintro e w5 ⟨rfl, b5⟩
  have hbel5 : Below w.heap.size w w5 := later (later hbel4 (fresh _ _)) b5
  obtain ⟨hc5, hf5⟩ := bcell b5
  obtain ⟨hc4, hf4⟩ := bcell (later b2 b4)
  have hz : w.heap.size < w4.heap.size := by have := (later b2 b4).size; simp at this; omega
  have hzn : ¬ w.heap.size = w4.heap.size := by omega
  have hz5 : w.heap.size < w4.heap.size + 1 := by omega
  clear o3 b2 b4 b5 hbel hbel4 hg
  go_wp2_with fail
  exact bodyPost_ret (v := .tuple #[.agg #[.int .u8 0, .int .u8 0, .int .u16 0, .int .u8 0, .int .u8 0, .int .u32 0], .int .u16 30]) (by simp [results, Try.results19, go_sem, hc5, hc4, hz, hz5]) rfl ⟨rfl, (by repeat' (first | (with_reducible exact hbel5) | (with_reducible refine Below.setCell ?_ ?_ _) | (with_reducible refine Below.drewN' ?_ _) | (with_reducible refine Below.drew ?_) | (with_reducible refine Below.alloc ?_ ?_ _) | (simp; done) | omega))⟩
set_option maxHeartbeats 2000000 in
theorem dec_good (b off N cap : Nat) (l : List Nat) (w : World) (ho : Octs w (some ⟨b, off, none⟩) (N + 2) l) (hN : 4 ≤ N) (hN2 : N ≤ 10) (hlc : N + 2 ≤ cap) (hm : cap ≤ 9223372036854775807) (hfit : Wire.fits l = true) (hck : Wire.checked l = true) (hsd : (Wire.back l).sound = true) :
    Calls Try.prog 19 #[.slice (some ⟨b, off, none⟩) (N + 2 : Nat) cap] w fun e w' => e = .returned (decVal .u16 l) ∧ Below w.heap.size w w' := by
  have hlt : b < w.heap.size := by
    rcases ho.2.2.2 with h | ⟨b', off', e, h, _⟩
    · omega
    · cases e; exact h
  have f0 : w.cell? ⟨b, off, none⟩ = some (.int .u8 (l.getD 0 0 : Nat)) := by
    rcases ho.2.2.2 with h | ⟨b', off', e, h, hc⟩
    · omega
    · cases e; exact hc 0 (by omega)
  have g0 : l.getD 0 0 < 256 := Oct_getD ho.2.2.1 0
  have HS : Hid (((Wire.sizeOf (l.getD 0 0) : Nat) : Int) = (N : Int) + 2) := by
    unfold Wire.fits at hfit
    have := of_decide_eq_true hfit
    have hl := ho.1
    show _ = _
    omega
  rw [good_val (k := .u16) (l := l) (f := Wire.back l) (by unfold Wire.dec; rw [hfit, hck, hsd]; rfl)]
  have HQ : Hid (decide (Wire.withCheck (l.take N) = l) = true) := by
    unfold Wire.checked at hck; rw [ho.1, Nat.add_sub_cancel] at hck; exact hck
  have HO : Hid (Octs w (some ⟨b, off, none⟩) (N + 2) l) := ho
  obtain ⟨c0, hc0⟩ : ∃ c, c = l.getD 0 0 := ⟨_, rfl⟩
  rw [← hc0] at f0 g0 HS
  have HV : Hid (Wire.fits l = true ∧ (Wire.back l).sound = true ∧ (Wire.back l).ok) := ⟨hfit, hsd, Wire.back_ok ho.2.2.1⟩
  clear hc0 ho hfit hck hsd
  obtain ⟨F, hF⟩ : ∃ F, Wire.back l = F := ⟨_, rfl⟩
  have HFF : Hid (Wire.back l = F) := hF
  rw [hF] at HV
  rw [hF]
  clear hF
  obtain ⟨fk, fl, fs, fa, fb, fx⟩ := F
  unfold fr
  simp only
  have j0 : (0 : Int) < (N : Int) + 2 := by omega
  have i1 : (N : Int) ≤ cap := by omega
  go_enter Try.func19, Try.ntmps19
  go_wp2_with (first
    | (go_at_call 23; refine (size_is c0 g0 ((N : Int) + 2) HS.out _).mono ?_; rintro e w' ⟨rfl, rfl⟩))
  refine (check_any none (some ⟨b, off, none⟩) N N (l.take N) (by omega) _ (.inr ⟨rfl, (HO.out.below (fresh _ _)).take (by omega), rfl, by omega⟩)).mono ?_
  rintro e w2 ⟨g, c, rfl, o2, m2⟩
  obtain ⟨b2, hg⟩ := m2.below
  have hbel : Below w.heap.size w w2 := later (fresh _ _) b2
  have o3 := (HO.out.below (fresh _ _)).below b2
  clear m2
  go_wp2_with fail
  refine (equal_is _ _ _ _ _ _ (Wire.withCheck (l.take N)) l _ o2.octs o3 true HQ.out).mono ?_
  rintro e w3 ⟨rfl, rfl⟩
  clear o2
  go_wp2_with fail
  refine (read_back b off N cap l _ o3 HV.out.1 hlc hm).mono ?_
  rintro e w4 ⟨rfl, b4⟩
  have hbel4 : Below w.heap.size w w4 := later hbel b4
  rw [HFF.out]
  unfold fr
  simp only
  go_wp2_with fail
  refine (sound_is ⟨fk, fl, fs, fa, fb, fx⟩ HV.out.2.2 true HV.out.2.1 _).mono ?_
  rintro e w5 ⟨rfl, b5⟩
  have hbel5 : Below w.heap.size w w5 := later (later hbel4 (fresh _ _)) b5
  obtain ⟨hc5, hf5⟩ := bcell b5
  obtain ⟨hc4, hf4⟩ := bcell (later b2 b4)
  have hz : w.heap.size < w4.heap.size := by have := (later b2 b4).size; simp at this; omega
  have hzn : ¬ w.heap.size = w4.heap.size := by omega
  have hz5 : w.heap.size < w4.heap.size + 1 := by omega
  clear o3 b2 b4 b5 hbel hbel4 hg
  go_wp2_with fail
  exact bodyPost_ret (v := .tuple #[.agg #[.int .u8 (fk : Nat), .int .u8 (fl : Nat), .int .u16 (fs : Nat), .int .u8 (fa : Nat), .int .u8 (fb : Nat), .int .u32 (fx : Nat)], .int .u16 0]) (by simp [results, Try.results19, go_sem, hc5, hc4, hz, hz5]) rfl ⟨rfl, (by repeat' (first | (with_reducible exact hbel5) | (with_reducible refine Below.setCell ?_ ?_ _) | (with_reducible refine Below.drewN' ?_ _) | (with_reducible refine Below.drew ?_) | (with_reducible refine Below.alloc ?_ ?_ _) | (simp; done) | omega))⟩
theorem decode_any (a : Option Addr) (len cap : Nat) (l : List Nat) (w : World) (ho : Octs w a len l) (hlc : len ≤ cap) (hm : cap ≤ 9223372036854775807) :
    Calls Try.prog 19 #[.slice a len cap] w fun e w' => e = .returned (decVal .u16 l) ∧ Below w.heap.size w w' := by
  rcases Nat.eq_zero_or_pos len with h0 | hp
  · subst h0
    obtain rfl : l = [] := List.length_eq_zero_iff.1 ho.1
    exact dec_empty a cap w
  · obtain ⟨b, off, rfl, _⟩ := ho.at hp
    cases hf : Wire.fits l with
    | false => exact dec_size b off len cap l w ho hp (by omega) hf
    | true =>
      have hlen := ho.1
      obtain ⟨N, rfl, h4, h10⟩ : ∃ N, len = N + 2 ∧ 4 ≤ N ∧ N ≤ 10 := ⟨len - 2, by rcases Wire.sized hf with h | h <;> omega, by rcases Wire.sized hf with h | h <;> omega, by rcases Wire.sized hf with h | h <;> omega⟩
      cases hc : Wire.checked l with
      | false => exact dec_check b off N cap l w ho h4 h10 hlc hm hf hc
      | true =>
        cases hs : (Wire.back l).sound with
        | false => exact dec_sound b off N cap l w ho h4 h10 hlc hm hf hc hs
        | true => exact dec_good b off N cap l w ho h4 h10 hlc hm hf hc hs
end Go.Proofs.Ytmllgbgcageccaa
