/-
  Contracts and plain facts that the walks lean on (WireG, NodeL, NodeM). Conditions: none but those that each states.
-/
import Derived.Test.YtniicgbkeifnjaaGreatDoorQ41
namespace Go.Proofs.YtniicgbkeifnjaaGreatDoor
open Go.ChangeShapes Go.WideShapes Go.ChangeAt Go.RowKit
set_option linter.unusedVariables false
set_option maxRecDepth 100000
theorem bcell {W w1 : World} (hb : Below W.heap.size W w1) : (∀ b o, b < W.heap.size → w1.cell? ⟨b, o, none⟩ = W.cell? ⟨b, o, none⟩) ∧ (∀ b o, b < W.heap.size → w1.frozen? ⟨b, o, none⟩ = W.frozen? ⟨b, o, none⟩) :=
  ⟨fun b o h => hb.cell (p := ⟨b, o, none⟩) h, fun b o h => hb.frozen (p := ⟨b, o, none⟩) h⟩
theorem getD_take {l : List Nat} {n i : Nat} (h : i < n) : (l.take n).getD i 0 = l.getD i 0 := by
  simp [List.getD_eq_getElem?_getD, h]
theorem read_back (b off N cap : Nat) (l : List Nat) (w : World) (ho : Octs w (some ⟨b, off, none⟩) (N + 2) l) (hfit : Wire.fits l = true) (hlc : N + 2 ≤ cap) (hm : cap ≤ 9223372036854775807) :
    Calls Tryz.prog 135 #[.slice (some ⟨b, off, none⟩) N cap] w fun e w' => e = .returned (fr (Wire.back l)) ∧ Below w.heap.size w w' := by
  have hlen := ho.1
  have hb : Wire.back l = Wire.rd (decide (l.getD 0 0 = 1)) (l.take N) := by
    unfold Wire.back; rw [hlen, Nat.add_sub_cancel]
  rw [hb]
  have ot := ho.take (n := N) (by omega)
  rcases Wire.sized hfit with ⟨h1, h2⟩ | ⟨h1, h2⟩
  · rw [show decide (l.getD 0 0 = 1) = false from decide_eq_false h2]
    exact read_short b off N cap (l.take N) w ot (by omega) (by omega) hm (by omega) (by rw [getD_take (by omega)]; exact h2)
  · rw [show decide (l.getD 0 0 = 1) = true from decide_eq_true h2]
    exact read_data b off N cap (l.take N) w ot (by omega) (by omega) hm (by omega) (by rw [getD_take (by omega)]; exact h2)
set_option maxHeartbeats 2000000 in
theorem dec_check (b off N cap : Nat) (l : List Nat) (w : World) (ho : Octs w (some ⟨b, off, none⟩) (N + 2) l) (hN : 4 ≤ N) (hN2 : N ≤ 10) (hlc : N + 2 ≤ cap) (hm : cap ≤ 9223372036854775807) (hfit : Wire.fits l = true) (hck : Wire.checked l = false) :
    Calls Tryz.prog 80 #[.slice (some ⟨b, off, none⟩) (N + 2 : Nat) cap] w fun e w' => e = .returned (decVal .u16 l) ∧ Below w.heap.size w w' := by
  have hlt : b < w.heap.size := by
    rcases ho.2.2.2 with h | ⟨b', off', e, h, _⟩
    · omega
    · cases e; exact h
  have f0 : w.cell? ⟨b, off, none⟩ = some (.int .u8 (l.getD 0 0 : Nat)) := by
    rcases ho.2.2.2 with h | ⟨b', off', e, h, hc⟩
    · omega
    · cases e; exact hc 0 (by omega)
  have g0 : l.getD 0 0 < 256 := Oct_getD ho.2.2.1 0
  have HS : Hid (((Wire.sizeOf (l.getD 0 0) : Nat) : Int) = (N : Int) + 2) := by
    unfold Wire.fits at hfit
    have := of_decide_eq_true hfit
    have hl := ho.1
    show _ = _
    omega
  rw [bad_val (k := .u16) (l := l) (by unfold Wire.dec; rw [hfit, hck]; rfl)]
  have HQ : Hid (decide (Wire.withCheck (l.take N) = l) = false) := by
    unfold Wire.checked at hck; rw [ho.1, Nat.add_sub_cancel] at hck; exact hck
  have HO : Hid (Octs w (some ⟨b, off, none⟩) (N + 2) l) := ho
  obtain ⟨c0, hc0⟩ : ∃ c, c = l.getD 0 0 := ⟨_, rfl⟩
  rw [← hc0] at f0 g0 HS
  clear hc0 ho hfit hck
  have j0 : (0 : Int) < (N : Int) + 2 := by omega
  have i1 : (N : Int) ≤ cap := by omega
  go_enter Tryz.func80, Tryz.ntmps80
  go_wp2_with (first
    | (go_at_call 100; refine (size_is c0 g0 ((N : Int) + 2) HS.out _).mono ?_; rintro e w' ⟨rfl, rfl⟩))
  refine (wcheck_any none (some ⟨b, off, none⟩) N N (l.take N) (by omega) _ (.inr ⟨rfl, (HO.out.below (fresh _ _)).take (by omega), rfl, by omega⟩)).mono ?_
  rintro e w2 ⟨g, c, rfl, o2, m2⟩
  obtain ⟨b2, hg⟩ := m2.below
  have hbel : Below w.heap.size w w2 := later (fresh _ _) b2
  have o3 := (HO.out.below (fresh _ _)).below b2
  clear m2
  go_wp2_with fail
  refine (equal_is _ _ _ _ _ _ (Wire.withCheck (l.take N)) l _ o2.octs o3 false HQ.out).mono ?_
  rintro e w3 ⟨rfl, rfl⟩
  obtain ⟨hc, hf⟩ := bcell b2
  clear o2 o3
  go_wp2_with fail
  exact bodyPost_ret (v := .tuple #[.agg #[.int .u8 0, .int .u8 0, .int .u16 0, .int .u8 0, .int .u8 0, .int .u32 0], .int .u16 30]) (by simp [results, Tryz.results80, go_sem, hc]) rfl ⟨rfl, (by repeat' (first | (with_reducible exact hbel) | (with_reducible refine Below.setCell ?_ ?_ _) | (with_reducible refine Below.drewN' ?_ _) | (with_reducible refine Below.drew ?_) | (with_reducible refine Below.alloc ?_ ?_ _) | (simp; done) | omega))⟩
set_option maxHeartbeats 2000000 in
theorem dec_sound (b off N cap : Nat) (l : List Nat) (w : World) (ho : Octs w (some ⟨b, off, none⟩) (N + 2) l) (hN : 4 ≤ N) (hN2 : N ≤ 10) (hlc : N + 2 ≤ cap) (hm : cap ≤ 9223372036854775807) (hfit : Wire.fits l = true) (hck : Wire.checked l = true) (hsd : (Wire.back l).sound = false) :
    Calls Tryz.prog 80 #[.slice (some ⟨b, off, none⟩) (N + 2 : Nat) cap] w fun e w' => e = .returned (decVal .u16 l) ∧ Below w.heap.size w w' := by
  have hlt : b < w.heap.size := by
    rcases ho.2.2.2 with h | ⟨b', off', e, h, _⟩
    · omega
    · cases e; exact h
  have f0 : w.cell? ⟨b, off, none⟩ = some (.int .u8 (l.getD 0 0 : Nat)) := by
    rcases ho.2.2.2 with h | ⟨b', off', e, h, hc⟩
    · omega
    · cases e; exact hc 0 (by omega)
  have g0 : l.getD 0 0 < 256 := Oct_getD ho.2.2.1 0
  have HS : Hid (((Wire.sizeOf (l.getD 0 0) : Nat) : Int) = (N : Int) + 2) := by
    unfold Wire.fits at hfit
    have := of_decide_eq_true hfit
    have hl := ho.1
    show _ = _
    omega
  rw [bad_val (k := .u16) (l := l) (by unfold Wire.dec; rw [hfit, hck, hsd]; rfl)]
  have HQ : Hid (decide (Wire.withCheck (l.take N) = l) = true) := by
    unfold Wire.checked at hck; rw [ho.1, Nat.add_sub_cancel] at hck; exact hck
  have HO : Hid (Octs w (some ⟨b, off, none⟩) (N + 2) l) := ho
  obtain ⟨c0, hc0⟩ : ∃ c, c = l.getD 0 0 := ⟨_, rfl⟩
  rw [← hc0] at f0 g0 HS
  have HV : Hid (Wire.fits l = true ∧ (Wire.back l).sound = false ∧ (Wire.back l).ok) := ⟨hfit, hsd, Wire.back_ok ho.2.2.1⟩
  clear hc0 ho hfit hck hsd
  have j0 : (0 : Int) < (N : Int) + 2 := by omega
  have i1 : (N : Int) ≤ cap := by omega
  go_enter Tryz.func80, Tryz.ntmps80
  go_wp2_with (first
    | (go_at_call 100; refine (size_is c0 g0 ((N : Int) + 2) HS.out _).mono ?_; rintro e w' ⟨rfl, rfl⟩))
  refine (wcheck_any none (some ⟨b, off, none⟩) N N (l.take N) (by omega) _ (.inr ⟨rfl, (HO.out.below (fresh _ _)).take (by omega), rfl, by omega⟩)).mono ?_
  rintro e w2 ⟨g, c, rfl, o2, m2⟩
  obtain ⟨b2, hg⟩ := m2.below
  have hbel : Below w.heap.size w w2 := later (fresh _ _) b2
  have o3 := (HO.out.below (fresh _ _)).below b2
  clear m2
  go_wp2_with fail
  refine (equal_is _ _ _ _ _ _ (Wire.withCheck (l.take N)) l _ o2.octs o3 true HQ.out).mono ?_
  rintro e w3 ⟨rfl, rfl⟩
  clear o2
  go_wp2_with fail
  refine (read_back b off N cap l _ o3 HV.out.1 hlc hm).mono ?_
  rintro e w4 ⟨rfl, b4⟩
  have hbel4 : Below w.heap.size w w4 := later hbel b4
  obtain ⟨F, hF⟩ : ∃ F, F = Wire.back l := ⟨_, rfl⟩
  rw [← hF] at HV
  rw [← hF]
  clear hF
  obtain ⟨fk, fl, fs, fa, fb, fx⟩ := F
  unfold fr
  simp only
  go_wp2_with fail
  refine (sound_is ⟨fk, fl, fs, fa, fb, fx⟩ HV.out.2.2 false HV.out.2.1 _).mono ?_
  rintro e w5 ⟨rfl, b5⟩
  have hbel5 : Below w.heap.size w w5 := later (later hbel4 (fresh _ _)) b5
  obtain ⟨hc5, hf5⟩ := bcell b5
  obtain ⟨hc4, hf4⟩ := bcell (later b2 b4)
  have hz : w.heap.size < w4.heap.size := by have := (later b2 b4).size; simp at this; omega
  have hzn : ¬ w.heap.size = w4.heap.size := by omega
  have hz5 : w.heap.size < w4.heap.size + 1 := by omega
  clear o3 b2 b4 b5 hbel hbel4 hg
  go_wp2_with fail
  exact bodyPost_ret (v := .tuple #[.agg #[.int .u8 0, .int .u8 0, .int .u16 0, .int .u8 0, .int .u8 0, .int .u32 0], .int .u16 30]) (by simp [results, Tryz.results80, go_sem, hc5, hc4, hz, hz5]) rfl ⟨rfl, (by repeat' (first | (with_reducible exact hbel5) | (with_reducible refine Below.setCell ?_ ?_ _) | (with_reducible refine Below.drewN' ?_ _) | (with_reducible refine Below.drew ?_) | (with_reducible refine Below.alloc ?_ ?_ _) | (simp; done) | omega))⟩
set_option maxHeartbeats 2000000 in
theorem dec_good (b off N cap : Nat) (l : List Nat) (w : World) (ho : Octs w (some ⟨b, off, none⟩) (N + 2) l) (hN : 4 ≤ N) (hN2 : N ≤ 10) (hlc : N + 2 ≤ cap) (hm : cap ≤ 9223372036854775807) (hfit : Wire.fits l = true) (hck : Wire.checked l = true) (hsd : (Wire.back l).sound = true) :
    Calls Tryz.prog 80 #[.slice (some ⟨b, off, none⟩) (N + 2 : Nat) cap] w fun e w' => e = .returned (decVal .u16 l) ∧ Below w.heap.size w w' := by
  have hlt : b < w.heap.size := by
    rcases ho.2.2.2 with h | ⟨b', off', e, h, _⟩
    · omega
    · cases e; exact h
  have f0 : w.cell? ⟨b, off, none⟩ = some (.int .u8 (l.getD 0 0 : Nat)) := by
    rcases ho.2.2.2 with h | ⟨b', off', e, h, hc⟩
    · omega
    · cases e; exact hc 0 (by omega)
  have g0 : l.getD 0 0 < 256 := Oct_getD ho.2.2.1 0
  have HS : Hid (((Wire.sizeOf (l.getD 0 0) : Nat) : Int) = (N : Int) + 2) := by
    unfold Wire.fits at hfit
    have := of_decide_eq_true hfit
    have hl := ho.1
    show _ = _
    omega
  rw [good_val (k := .u16) (l := l) (f := Wire.back l) (by unfold Wire.dec; rw [hfit, hck, hsd]; rfl)]
  have HQ : Hid (decide (Wire.withCheck (l.take N) = l) = true) := by
    unfold Wire.checked at hck; rw [ho.1, Nat.add_sub_cancel] at hck; exact hck
  have HO : Hid (Octs w (some ⟨b, off, none⟩) (N + 2) l) := ho
  obtain ⟨c0, hc0⟩ : ∃ c, c = l.getD 0 0 := ⟨_, rfl⟩
  rw [← hc0] at f0 g0 HS
  have HV : Hid (Wire.fits l = true ∧ (Wire.back l).sound = true ∧ (Wire.back l).ok) := ⟨hfit, hsd, Wire.back_ok ho.2.2.1⟩
  clear hc0 ho hfit hck hsd
  obtain ⟨F, hF⟩ : ∃ F, Wire.back l = F := ⟨_, rfl⟩
  have HFF : Hid (Wire.back l = F) := hF
  rw [hF] at HV
  rw [hF]
  clear hF
  obtain ⟨fk, fl, fs, fa, fb, fx⟩ := F
  unfold fr
  simp only
  have j0 : (0 : Int) < (N : Int) + 2 := by omega
  have i1 : (N : Int) ≤ cap := by omega
  go_enter Tryz.func80, Tryz.ntmps80
  go_wp2_with (first
    | (go_at_call 100; refine (size_is c0 g0 ((N : Int) + 2) HS.out _).mono ?_; rintro e w' ⟨rfl, rfl⟩))
  refine (wcheck_any none (some ⟨b, off, none⟩) N N (l.take N) (by omega) _ (.inr ⟨rfl, (HO.out.below (fresh _ _)).take (by omega), rfl, by omega⟩)).mono ?_
  rintro e w2 ⟨g, c, rfl, o2, m2⟩
  obtain ⟨b2, hg⟩ := m2.below
  have hbel : Below w.heap.size w w2 := later (fresh _ _) b2
  have o3 := (HO.out.below (fresh _ _)).below b2
  clear m2
  go_wp2_with fail
  refine (equal_is _ _ _ _ _ _ (Wire.withCheck (l.take N)) l _ o2.octs o3 true HQ.out).mono ?_
  rintro e w3 ⟨rfl, rfl⟩
  clear o2
  go_wp2_with fail
  refine (read_back b off N cap l _ o3 HV.out.1 hlc hm).mono ?_
  rintro e w4 ⟨rfl, b4⟩
  have hbel4 : Below w.heap.size w w4 := later hbel b4
  rw [HFF.out]
  unfold fr
  simp only
  go_wp2_with fail
  refine (sound_is ⟨fk, fl, fs, fa, fb, fx⟩ HV.out.2.2 true HV.out.2.1 _).mono ?_
  rintro e w5 ⟨rfl, b5⟩
  have hbel5 : Below w.heap.size w w5 := later (later hbel4 (fresh _ _)) b5
  obtain ⟨hc5, hf5⟩ := bcell b5
  obtain ⟨hc4, hf4⟩ := bcell (later b2 b4)
  have hz : w.heap.size < w4.heap.size := by have := (later b2 b4).size; simp at this; omega
  have hzn : ¬ w.heap.size = w4.heap.size := by omega
  have hz5 : w.heap.size < w4.heap.size + 1 := by omega
  clear o3 b2 b4 b5 hbel hbel4 hg
  go_wp2_with fail
  exact bodyPost_ret (v := .tuple #[.agg #[.int .u8 (fk : Nat), .int .u8 (fl : Nat), .int .u16 (fs : Nat), .int .u8 (fa : Nat), .int .u8 (fb : Nat), .int .u32 (fx : Nat)], .int .u16 0]) (by simp [results, Tryz.results80, go_sem, hc5, hc4, hz, hz5]) rfl ⟨rfl, (by repeat' (first | (with_reducible exact hbel5) | (with_reducible refine Below.setCell ?_ ?_ _) | (with_reducible refine Below.drewN' ?_ _) | (with_reducible refine Below.drew ?_) | (with_reducible refine Below.alloc ?_ ?_ _) | (simp; done) | omega))⟩
theorem decode_any (a : Option Addr) (len cap : Nat) (l : List Nat) (w : World) (ho : Octs w a len l) (hlc : len ≤ cap) (hm : cap ≤ 9223372036854775807) :
    Calls Tryz.prog 80 #[.slice a len cap] w fun e w' => e = .returned (decVal .u16 l) ∧ Below w.heap.size w w' := by
  rcases Nat.eq_zero_or_pos len with h0 | hp
  · subst h0
    obtain rfl : l = [] := List.length_eq_zero_iff.1 ho.1
    exact dec_empty a cap w
  · obtain ⟨b, off, rfl, _⟩ := ho.at hp
    cases hf : Wire.fits l with
    | false => exact dec_size b off len cap l w ho hp (by omega) hf
    | true =>
      have hlen := ho.1
      obtain ⟨N, rfl, h4, h10⟩ : ∃ N, len = N + 2 ∧ 4 ≤ N ∧ N ≤ 10 := ⟨len - 2, by rcases Wire.sized hf with h | h <;> omega, by rcases Wire.sized hf with h | h <;> omega, by rcases Wire.sized hf with h | h <;> omega⟩
      cases hc : Wire.checked l with
      | false => exact dec_check b off N cap l w ho h4 h10 hlc hm hf hc
      | true =>
        cases hs : (Wire.back l).sound with
        | false => exact dec_sound b off N cap l w ho h4 h10 hlc hm hf hc hs
        | true => exact dec_good b off N cap l w ho h4 h10 hlc hm hf hc hs
end Go.Proofs.YtniicgbkeifnjaaGreatDoor
namespace Go.Proofs.YtniicgbkeifnjaaGreatDoor
open Go.ChangeShapes Go.WideShapes Go.ChangeAt Go.RowKit
set_option linter.unusedVariables false
set_option maxRecDepth 100000
namespace Nd
theorem portIn_hit (u : Int) : ∀ (l : List Int) (a k : Nat), k < l.length → l.getD k 0 = u → (∀ j, j < k → l.getD j 0 ≠ u) → portIn u l a = a + k + 1
  | [], a, k, h, _, _ => by simp at h
  | y :: r, a, 0, h, h2, h3 => by
    have : y = u := by simpa using h2
    simp [portIn, this]
  | y :: r, a, k + 1, h, h2, h3 => by
    have h4 : y ≠ u := by simpa using h3 0 (by omega)
    rw [portIn, if_neg h4, portIn_hit u r (a + 1) k (by simpa using h) (by simpa using h2) (fun j hj => by simpa using h3 (j + 1) (by omega))]
    omega
theorem portIn_miss (u : Int) : ∀ (l : List Int) (a : Nat), (∀ j, j < l.length → l.getD j 0 ≠ u) → portIn u l a = 0
  | [], a, _ => rfl
  | y :: r, a, h => by
    have h4 : y ≠ u := by simpa using h 0 (by simp)
    rw [portIn, if_neg h4, portIn_miss u r (a + 1) (fun j hj => by simpa using h (j + 1) (by simpa using hj))]
theorem port_le (c : Cfg) (u : Int) : port c u < c.P := by
  have h : ∀ (l : List Int) (a : Nat), portIn u l a ≤ a + l.length := by
    intro l
    induction l with
    | nil => intro a; simp [portIn]
    | cons y r ih =>
      intro a
      unfold portIn
      split
      · simp only [List.length_cons]; omega
      · have := ih (a + 1)
        simp only [List.length_cons]
        omega
  have := h c.bs 0
  unfold port Cfg.P
  omega
section
variable {w : World} {F FH FR : Nat → Prop} {B : Lb → Nat} {ph pr m p : Nat} {c : Cfg} {s : St}
theorem ptest_any (a0 : Value) (d u : Int) (la : Option Addr) (ln lc b : Nat) (hb : w.cell? ⟨b, 0, none⟩ = some (.int .i64 u)) {r : Bool} (hr : (d == u) = r) :
    Calls Tryz.prog 133 #[.agg #[a0, .int .i64 d, .slice la ln lc], .pointer (some ⟨b, 0, none⟩)] w fun e w' => e = .returned (.bool r) ∧ Below w.heap.size w w' := by
  obtain ⟨W, hW⟩ : ∃ W, W = w.alloc (.cells #[a0, .int .i64 d, .slice la ln lc] 113) := ⟨_, rfl⟩
  have HB : Hid (Below w.heap.size w W) := by rw [hW]; exact fresh _ _
  have k0 : W.cell? ⟨b, 0, none⟩ = some (.int .i64 u) := (HB.out.cell (p := ⟨b, 0, none⟩) (cell_lt hb)).trans hb
  have k1 : W.cell? ⟨w.heap.size, 1, none⟩ = some (.int .i64 d) := by rw [hW]; simp
  clear hb
  go_enter Tryz.func133, Tryz.ntmps133
  go_upto_region 1 with fail
  rw [← hW]
  clear hW
  go_wp2_with fail
  go_ret
  exact ⟨rfl, HB.out⟩
set_option maxHeartbeats 4000000 in
set_option maxRecDepth 100000 in
theorem pindex_any (h : NIn w F FH FR B ph pr c s m) (u : Int) (b C0 : Nat) (hb : w.cell? ⟨b, 0, none⟩ = some (.int .i64 u)) {z : Int} (hz : (port c u : Int) - 1 = z) :
    Calls Tryz.prog 132 #[.slice (some ⟨B .pb, 3, none⟩) c.bs.length C0, .func (Fn.func 133) #[] #[.pointer (some ⟨b, 0, none⟩)]] w fun e w' => e = .returned (.int .i64 z) ∧ Below w.heap.size w w' := by
  have HN : Hid (NIn w F FH FR B ph pr c s m) := h
  have HBc : Hid (w.cell? ⟨b, 0, none⟩ = some (.int .i64 u)) := hb
  have HZ : Hid ((port c u : Int) - 1 = z) := hz
  have hP := h.cfg.P6
  obtain ⟨N, hNe⟩ : ∃ N, c.bs.length = N := ⟨_, rfl⟩
  have HNe : Hid (c.bs.length = N) := hNe
  have hPN : c.P = N + 1 := by unfold Cfg.P; rw [hNe]
  have HP : Hid (c.P = N + 1) := hPN
  rw [hPN] at hP
  rw [hNe]
  clear h hb hz hNe hPN
  go_enter Tryz.func132, Tryz.ntmps132
  go_wp2_with fail
  go_loopw [5, 8] (fun _ i wr => ∃ k : Nat, k ≤ N ∧ i = .int .i64 k ∧ (∀ j, j < k → c.bs.getD j 0 ≠ u) ∧ Below w.heap.size w wr) (fun _ i _ => N - (intOf i).toNat)
  case atStart => exact ⟨0, Nat.zero_le _, rfl, fun j hj => by omega, Below.refl _ _⟩
  case round =>
    obtain ⟨k, hk, rfl, hno, hB⟩ := hrel
    have HNo : Hid (∀ j, j < k → c.bs.getD j 0 ≠ u) := hno
    have HB : Hid (Below w.heap.size w wr) := hB
    clear hno hB
    by_cases hkn : k < N
    · have hkP : k + 1 < c.P := by rw [HP.out]; omega
      have HN1 := HN.out.below HB.out
      have hrw := HN1.rows (k + 1) hkP
      obtain ⟨lc, hrl⟩ := HN1.rowl (k + 1) (by omega) hkP
      rw [show (k + 1) * 3 = 3 + k * 3 by omega] at hrw hrl
      obtain ⟨y0, y1⟩ := hrw
      have hto : toV c (k + 1) = c.bs.getD k 0 := if_neg (by omega)
      rw [hto] at y1
      obtain ⟨ds, hds⟩ : ∃ ds, c.bs.getD k 0 = ds := ⟨_, rfl⟩
      have HDs : Hid (c.bs.getD k 0 = ds) := hds
      rw [hds] at y1
      have hkI : (k : Int) < (N : Int) := by omega
      have k0 := (HB.out.cell (p := ⟨b, 0, none⟩) (cell_lt HBc.out)).trans HBc.out
      have HK0 : Hid (wr.cell? ⟨b, 0, none⟩ = some (.int .i64 u)) := k0
      clear HN1 hto hds k0
      by_cases he : ds = u
      · have hb' : (ds == u) = true := by simp [he]
        have HR : Hid ((k : Int) = z) := by
          show _ = _
          rw [← HZ.out]
          unfold port
          rw [portIn_hit u c.bs 0 k (by rw [HNe.out]; exact hkn) (by rw [HDs.out, he]) HNo.out]
          omega
        clear he
        go_wp2_with (go_at_call 133; refine (ptest_any _ ds u _ _ _ b HK0.out hb').mono ?_; rintro e v ⟨rfl, hB1⟩; have HB1 : Hid (Below w.heap.size w v) := later HB.out hB1; clear hB1)
        go_ret
        rw [HR.out]
        exact ⟨rfl, HB1.out⟩
      · have hb' : (ds == u) = false := by simp [he]
        have HR : Hid (∀ j, j < k + 1 → c.bs.getD j 0 ≠ u) := by
          intro j hj
          by_cases e : j = k
          · rw [e, HDs.out]; exact he
          · exact HNo.out j (by omega)
        clear he
        go_wp2_with (go_at_call 133; refine (ptest_any _ ds u _ _ _ b HK0.out hb').mono ?_; rintro e v ⟨rfl, hB1⟩; have HB1 : Hid (Below w.heap.size w v) := later HB.out hB1; clear hB1)
        go_roundw
        case rel => exact ⟨k + 1, by omega, by go_num, HR.out, HB1.out⟩
        case measure => simp [intOf]; omega
    · obtain rfl : k = N := by omega
      have HR : Hid (-1 = z) := by
        show _ = _
        rw [← HZ.out]
        unfold port
        rw [portIn_miss u c.bs 0 (fun j hj => HNo.out j (by rw [HNe.out] at hj; exact hj))]
        rfl
      go_wp2_with fail
      go_ret
      rw [← HR.out]
      exact ⟨rfl, HB.out⟩
set_option maxHeartbeats 1000000 in
theorem portto_any (h : NIn w F FH FR B ph pr c s m) (u : Int) {k : Nat} (hk : port c u = k) :
    Calls Tryz.prog 79 #[.pointer (some ⟨B .p, 0, none⟩), .int .i64 u] w fun e w' => e = .returned (.int .i64 k) ∧ Below w.heap.size w w' := by
  have hP := h.cfg.P6
  have hP2 := h.cfg.P2
  have hk6 := port_le c u
  obtain ⟨pc, hpc1, hpc2, h6⟩ := h.c6
  obtain ⟨W, hW⟩ : ∃ W, W = w.alloc (.cells #[.int .i64 u] 3) := ⟨_, rfl⟩
  have HB : Hid (Below w.heap.size w W) := by rw [hW]; exact fresh _ _
  have HN : Hid (NIn W F FH FR B ph pr c s m) := h.below HB.out
  have HC : Hid (W.cell? ⟨w.heap.size, 0, none⟩ = some (.int .i64 u)) := by rw [hW]; show _ = _; simp
  have k6 : W.cell? ⟨B .p, 6, none⟩ = some (.slice (some ⟨B .pb, 0, none⟩) c.P pc) := (HB.out.cell (p := ⟨B .p, 6, none⟩) (h.foot _ (h.own .p trivial).1)).trans h6
  obtain ⟨N, hNe⟩ : ∃ N, c.bs.length = N := ⟨_, rfl⟩
  have hPN : c.P = N + 1 := by unfold Cfg.P; rw [hNe]
  obtain ⟨C0, hK⟩ : ∃ C0, pc = C0 + 1 := ⟨pc - 1, by omega⟩
  subst hK
  have HNe : Hid (c.bs.length = N) := hNe
  rw [hPN] at k6 hP hpc1 hP2 hk6
  have hNK : N ≤ C0 := by omega
  have hK1 : ¬ C0 + 1 = 1 := by omega
  have hK0 : ¬ C0 = 0 := by omega
  have hK63 : C0 + 1 ≤ 9223372036854775807 := by unfold maxLen at hpc2; omega
  rw [hk] at hk6
  have hwr : IntKind.i64.wrap (1 + ((k : Int) - 1)) = (k : Int) := by rw [IntKind.wrap_i64]; omega
  have HIx : Hid _ := pindex_any HN.out u w.heap.size C0 HC.out (z := (k : Int) - 1) (by rw [hk])
  rw [hNe] at HIx
  clear h h6 hpc1 hpc2 hPN hNe hk
  go_enter Tryz.func79, Tryz.ntmps79
  go_upto_region 1 with fail
  rw [← hW]
  clear hW
  go_wp2_with fail
  refine Calls.mono HIx.out ?_
  rintro e v ⟨rfl, hB1⟩
  have HB1 : Hid (Below w.heap.size w v) := later HB.out hB1
  clear hB1
  go_wp2_with fail
  go_ret
  exact ⟨ret_int (by first | rfl | (rw [IntKind.wrap_i64]; omega) | omega), HB1.out⟩
end
end Nd
end Go.Proofs.YtniicgbkeifnjaaGreatDoor
namespace Go.Proofs.YtniicgbkeifnjaaGreatDoor
open Go.ChangeShapes Go.WideShapes Go.ChangeAt Go.RowKit
set_option linter.unusedVariables false
set_option maxRecDepth 100000
namespace Nd
theorem data_no {c : Cfg} {s : St} {i : Nat} {f : Wire.Fr} (h : dataE c s i f ≠ 0) : data c s i f = s := if_neg h
theorem data_yes {c : Cfg} {s : St} {i : Nat} {f : Wire.Fr} (h : dataE c s i f = 0) : data c s i f = push c { s with r := up2 s.r i f.l (rCome c.room (s.r i f.l) (f.s : Nat)) } i (c.way f.b) f.l (pkOf f) := if_pos h
theorem rCome_le {R : Nat} {q : Int × Int} {x : Int} (h0 : 0 ≤ q.2) (hR : R ≤ 8) : (rCome R q x).1 ≤ q.1 + 8 := by
  unfold rCome
  split
  · rename_i h
    unfold rComeE at h
    split at h
    · cases h
    · split at h
      · cases h
      · simp only
        omega
  · omega
theorem rHear_le {R : Nat} {q : Int × Int} {x : Int} (h0 : 0 ≤ q.2) (hR : R ≤ 8) : (rHear R q x).1 ≤ q.1 + 8 := by
  unfold rHear
  split
  · simp only
    omega
  · omega
theorem sHear_one {q : Int × Int} {x : Int} : (sHear q x).1 = q.1 := by
  unfold sHear
  split <;> rfl
section
variable {w : World} {F FH FR : Nat → Prop} {B : Lb → Nat} {ph pr m p : Nat} {c : Cfg} {s : St}
theorem pushedN (h : NIn w F FH FR B ph pr c s m) (hm : m ≤ 99000) (i o l : Nat) (hi : i ≤ 100) (ho : o ≤ 100) (hl : l ≤ 100) (x : Pk) (hx : 0 ≤ x.b ∧ x.b < 4294967296) {u : World} (hB : Below w.heap.size w u) :
    Calls Tryz.prog 103 #[.pointer (some ⟨pr, 0, none⟩), .int .i64 i, .int .i64 o, .int .i64 l, .agg #[.int .i64 x.s, .int .i64 x.d, .int .i64 x.l, .int .u32 x.b]] u fun e w' => AnyB e ∧ ∃ F', NAt w' F' (B .p) c (push c s i o l x) (m + 1) ∧ w'.cell? ⟨B .p, 9, none⟩ = some (.pointer (some ⟨pr, 0, none⟩)) ∧ K.Grows F u F' w' := by
  have hN := h.below hB
  refine (K.rpush_any hN.rings (by omega) (i : Nat) (o : Nat) (l : Nat) (wf3 (by omega) (by omega) (by omega)) x _ rfl).mono ?_
  rintro e w' ⟨he, F', hv, hg⟩
  obtain ⟨n1, n2⟩ := hN.upRings hg hv (fun q y hy => (pushQ_mem hy).elim (h.st.qd q y) (fun e => by rw [e]; exact hx))
  exact ⟨⟨_, he⟩, _, ⟨_, _, _, _, _, rfl, n1⟩, n1.c9, n2⟩
set_option maxHeartbeats 8000000 in
set_option maxRecDepth 100000 in
theorem takedata_any (h : NIn w F FH FR B ph pr c s m) (hm : m ≤ 90000) {i : Nat} (hi : 1 ≤ i) (hi2 : i < c.P) {f : Wire.Fr} (hok : f.ok) (hl : f.l < c.L) :
    Calls Tryz.prog 83 #[.pointer (some ⟨B .p, 0, none⟩), .int .i64 i, .agg #[.pointer (some ⟨B (.sq i f.l), 0, none⟩), .pointer (some ⟨B (.rq i f.l), 0, none⟩)], fr f] w (InjEnd w F (B .p) c (data c s i f) (m + 2) (dataE c s i f)) := by
  obtain ⟨fk, fl, fs, fa, fb, fx⟩ := f
  obtain ⟨o1, o2, o3, o4, o5, o6⟩ := hok
  simp only at o1 o2 o3 o4 o5 o6 hl ⊢
  unfold fr
  simp only
  have hP := h.cfg.P6
  have hL := h.cfg.L3
  have hN6 := h.cfg.N6
  have HN : Hid (NIn w F FH FR B ph pr c s m) := h
  obtain ⟨b1, hb1⟩ : ∃ b1, w.heap.size = b1 := ⟨_, rfl⟩
  obtain ⟨W, hW⟩ : ∃ W, W = (w.alloc (.cells #[.pointer (some ⟨B (.sq i fl), 0, none⟩), .pointer (some ⟨B (.rq i fl), 0, none⟩)] 150)).alloc (.cells #[.int .u8 fk, .int .u8 fl, .int .u16 fs, .int .u8 fa, .int .u8 fb, .int .u32 fx] 47) := ⟨_, rfl⟩
  have HB : Hid (Below w.heap.size w W) := by rw [hW]; exact later (fresh _ _) (fresh _ _)
  have HX : Hid (Box W (b1 + 1) ⟨fk, fl, fs, fa, fb, fx⟩) := by
    have h1 := Box.made (w.alloc (.cells #[.pointer (some ⟨B (.sq i fl), 0, none⟩), .pointer (some ⟨B (.rq i fl), 0, none⟩)] 150)) ⟨fk, fl, fs, fa, fb, fx⟩
    rw [World.size_alloc] at h1
    rw [hW, ← hb1]
    exact h1
  have HT : Hid (W.cell? ⟨b1, 1, none⟩ = some (.pointer (some ⟨B (.rq i fl), 0, none⟩))) := by
    rw [hW, ← hb1]
    show _ = _
    rw [(fresh (w.alloc (.cells #[.pointer (some ⟨B (.sq i fl), 0, none⟩), .pointer (some ⟨B (.rq i fl), 0, none⟩)] 150)) _).cell (p := ⟨w.heap.size, 1, none⟩) (by simp)]
    simp
  have HWs : Hid (W.heap.size = b1 + 1 + 1) := by show _ = _; rw [hW, World.size_alloc, World.size_alloc, hb1]
  have wa : IntKind.i64.wrap (fa : Int) = (fa : Int) := by rw [IntKind.wrap_i64]; omega
  have wb : IntKind.i64.wrap (fb : Int) = (fb : Int) := by rw [IntKind.wrap_i64]; omega
  have wl : IntKind.i64.wrap (fl : Int) = (fl : Int) := by rw [IntKind.wrap_i64]; omega
  -- the packet's box
  obtain ⟨b3, hb3⟩ : ∃ b3, W.heap.size = b3 := ⟨_, rfl⟩
  obtain ⟨X, hX⟩ : ∃ X, X = W.alloc (.cells #[.int .i64 (fa : Nat), .int .i64 (fb : Nat), .int .i64 (fl : Nat), .int .u32 (fx : Nat)] 25) := ⟨_, rfl⟩
  have HBX : Hid (Below W.heap.size W X) := by rw [hX]; exact fresh _ _
  have HPk : Hid (PkAt X b3 0 ⟨(fa : Nat), (fb : Nat), (fl : Nat), (fx : Nat)⟩) := by rw [hX, ← hb3]; exact PkAt.new W ⟨(fa : Nat), (fb : Nat), (fl : Nat), (fx : Nat)⟩
  have HXX : Hid (Box X (b1 + 1) ⟨fk, fl, fs, fa, fb, fx⟩) := HX.out.below HBX.out
  have HTX : Hid (X.cell? ⟨b1, 1, none⟩ = some (.pointer (some ⟨B (.rq i fl), 0, none⟩))) := (HBX.out.cell (p := ⟨b1, 1, none⟩) (cell_lt HT.out)).trans HT.out
  have HBwX : Hid (Below w.heap.size w X) := later HB.out HBX.out
  have HNX : Hid (NIn X F FH FR B ph pr c s m) := h.below HBwX.out
  have HNf : Hid (∀ j, b1 ≤ j → ¬ F j) := fun j hj e => by have := HN.out.foot j e; omega
  have HLt : Hid (b1 < X.heap.size ∧ b1 + 1 < X.heap.size ∧ b3 < X.heap.size ∧ b1 ≤ b3) := ⟨cell_lt HTX.out, HXX.out.lt, HPk.out.lt, by have := HWs.out; omega⟩
  obtain ⟨E, hE⟩ : ∃ E, dataE c s i ⟨fk, fl, fs, fa, fb, fx⟩ = E := ⟨_, rfl⟩
  have HE : Hid (dataE c s i ⟨fk, fl, fs, fa, fb, fx⟩ = E) := hE
  rw [hE]
  clear h hE
  by_cases hn : fa < c.N ∧ fb < c.N
  · have HEr : Hid (rComeE c.room (s.r i fl) (fs : Nat) = E) := by
      show _ = _
      rw [← HE.out]
      unfold dataE
      rw [if_pos hn]
    have HA : Hid ((decide (0 ≤ (fa : Int)) && decide ((fa : Int) < (c.N : Int))) = true) := by show _ = _; rw [decide_eq_true (by omega), decide_eq_true (by omega)]; rfl
    have HBb : Hid ((decide (0 ≤ (fb : Int)) && decide ((fb : Int) < (c.N : Int))) = true) := by show _ = _; rw [decide_eq_true (by omega), decide_eq_true (by omega)]; rfl
    have hbN := hn.2
    have hrb := HNX.out.st.rn i fl hi hi2 hl
    have HCo : Hid _ := ncome_any (R := c.room) (HNX.out.rcv i fl hi hi2 hl) (by omega) (fs : Nat) (by omega)
    rw [HEr.out] at HCo
    by_cases hE0 : E = 0
    · have HD : Hid (data c s i ⟨fk, fl, fs, fa, fb, fx⟩ = push c { s with r := up2 s.r i fl (rCome c.room (s.r i fl) (fs : Nat)) } i (c.way fb) fl ⟨(fa : Nat), (fb : Nat), (fl : Nat), (fx : Nat)⟩) := data_yes (by rw [HE.out]; exact hE0)
      rw [HD.out]
      subst hE0
      have hz0 : ((0 : Int) != 0) = false := rfl
      obtain ⟨z, hz⟩ : ∃ z, c.way fb = z := ⟨_, rfl⟩
      have HZ : Hid (c.way fb = z) := hz
      have hzP : z < 7 := by have := HNX.out.cfg.way fb hbN; omega
      rw [hz]
      clear hn hrb hz
      obtain ⟨x0, x1, x2, x3, x4, x5⟩ := HX.out
      go_enter Tryz.func83, Tryz.ntmps83
      go_upto_region 1 with fail
      rw [← hW]
      clear hW
      go_upto_region 2 with fail
      rw [← hX]
      clear hX x0 x1 x2 x3 x4 x5
      obtain ⟨x0, x1, x2, x3, x4, x5⟩ := HXX.out
      obtain ⟨p0, p1, p2, p3⟩ := HPk.out
      simp only [Nat.zero_add] at p1 p2 p3
      have t1 := HTX.out
      go_wp2_with (first
        | (go_at_call 42; refine (isnode_any HNX.out _ rfl).mono ?_; rintro e v ⟨rfl, hq⟩; obtain rfl := hq.symm; first | rw [HA.out] | rw [HBb.out])
        | (go_at_call 138; refine Calls.mono HCo.out ?_; rintro e v ⟨rfl, hv, hs⟩; have HV : Hid (Bf.Rcv v (B (.rq i fl)) (rCome c.room ((s.r i fl).1, (s.r i fl).2) (fs : Nat)).1 (c.room : Nat) (rCome c.room ((s.r i fl).1, (s.r i fl).2) (fs : Nat)).2 ∧ Sans (fun j => j = B (.rq i fl)) X v) := ⟨hv, hs⟩; clear hv hs))
      have hrF := (HNX.out.own (.rq i fl) ⟨hi, hi2, hl⟩).1
      have h0 := (HNX.out.rcv i fl hi hi2 hl).h0
      have hr8 := HNX.out.cfg.room8
      have n4 := HNX.out.upRcv (v := rCome c.room (s.r i fl) (fs : Nat)) hi hi2 hl HV.out.2 HV.out.1 (by have h1 := rCome_le (R := c.room) (q := s.r i fl) (x := (fs : Nat)) h0 (by omega); have h2 := HNX.out.st.rn i fl hi hi2 hl; omega)
      have HN4 : Hid (NIn v F FH FR B ph pr c { s with r := up2 s.r i fl (rCome c.room (s.r i fl) (fs : Nat)) } (m + 1)) := n4
      have HPk4 : Hid (PkAt v b3 0 ⟨(fa : Nat), (fb : Nat), (fl : Nat), (fx : Nat)⟩) := HPk.out.sans HV.out.2 (fun e => HNf.out b3 HLt.out.2.2.2 (by rw [e]; exact hrF))
      have HG4 : Hid (K.Grows F w F v) := ⟨(Sans.of_below HBwX.out).then (HV.out.2.mono (fun j e => by rw [e]; exact hrF)), fun j hj => .inl hj⟩
      clear n4 h0 hr8 hrF p0 p1 p2 p3 t1 x0 x1 x2 x3 x4 x5
      obtain ⟨p0, p1, p2, p3⟩ := HPk4.out
      simp only [Nat.zero_add] at p1 p2 p3
      have k9 := HN4.out.c9
      have HXb : Hid (0 ≤ (fx : Int) ∧ (fx : Int) < 4294967296) := ⟨by omega, by omega⟩
      go_region_held3 (fun w' => w'.cell? ⟨B .p, 9, none⟩ = some (.pointer (some ⟨pr, 0, none⟩)) ∧ w'.cell? ⟨b3, 0, none⟩ = some (.int .i64 (fa : Nat)) ∧ w'.cell? ⟨b3, 1, none⟩ = some (.int .i64 (fb : Nat)) ∧ w'.cell? ⟨b3, 2, none⟩ = some (.int .i64 (fl : Nat)) ∧ w'.cell? ⟨b3, 3, none⟩ = some (.int .u32 (fx : Nat))) (first | exact CK5.out | go_keep)
        (first
          | (go_at_call 104; refine (portof_any (HN4.out.below (K.drewN_below _ 1)) fb hbN HZ.out).mono ?_; rintro e v2 ⟨rfl, hq⟩; obtain rfl := hq.symm)
          | (go_at_call 103; refine (pushedN HN4.out (by omega) i z fl (by omega) (by omega) (by omega) ⟨(fa : Nat), (fb : Nat), (fl : Nat), (fx : Nat)⟩ HXb.out (K.drewN_below _ 1)).mono ?_; rintro e u5 ⟨⟨b5, rfl⟩, F5, n5, k95, g5⟩; have HN5 : Hid (NAt u5 F5 (B .p) c (push c { s with r := up2 s.r i fl (rCome c.room (s.r i fl) (fs : Nat)) } i z fl ⟨(fa : Nat), (fb : Nat), (fl : Nat), (fx : Nat)⟩) (m + 1 + 1)) := n5; have hpk5 := (HPk4.out.below (K.drewN_below _ 1)).sans g5.1 (HNf.out b3 HLt.out.2.2.2); have CK5 : Hid (u5.cell? ⟨B .p, 9, none⟩ = some (.pointer (some ⟨pr, 0, none⟩)) ∧ u5.cell? ⟨b3, 0, none⟩ = some (.int .i64 (fa : Nat)) ∧ u5.cell? ⟨b3, 1, none⟩ = some (.int .i64 (fb : Nat)) ∧ u5.cell? ⟨b3, 2, none⟩ = some (.int .i64 (fl : Nat)) ∧ u5.cell? ⟨b3, 3, none⟩ = some (.int .u32 (fx : Nat))) := ⟨k95, hpk5.1, hpk5.2.1, hpk5.2.2.1, hpk5.2.2.2⟩; have HG5 : Hid (K.Grows F w F5 u5) := ⟨HG4.out.1.then ((Sans.drewN v 1).then g5.1), fun j hj => (g5.2 j hj).imp id (fun e => Nat.le_trans HG4.out.1.size e)⟩; clear n5 k95 g5 hpk5))
      go_wp2_with fail
      go_ret
      exact ⟨rfl, F5, HN5.out, HG5.out⟩
    · have HD : Hid (data c s i ⟨fk, fl, fs, fa, fb, fx⟩ = s) := data_no (by rw [HE.out]; exact hE0)
      rw [HD.out]
      have hz0 : (E == 0) = false := by simp [hE0]
      have hz1 : (E != 0) = true := by simp [hE0]
      have HNo : Hid (rCome c.room (s.r i fl) (fs : Nat) = s.r i fl) := if_neg (by rw [HEr.out]; exact hE0)
      have h0 := (HNX.out.rcv i fl hi hi2 hl).h0
      clear hn
      obtain ⟨x0, x1, x2, x3, x4, x5⟩ := HX.out
      go_enter Tryz.func83, Tryz.ntmps83
      go_upto_region 1 with fail
      rw [← hW]
      clear hW
      go_upto_region 2 with fail
      rw [← hX]
      clear hX x0 x1 x2 x3 x4 x5
      obtain ⟨x0, x1, x2, x3, x4, x5⟩ := HXX.out
      obtain ⟨p0, p1, p2, p3⟩ := HPk.out
      simp only [Nat.zero_add] at p1 p2 p3
      have t1 := HTX.out
      go_wp2_with (first
        | (go_at_call 42; refine (isnode_any HNX.out _ rfl).mono ?_; rintro e v ⟨rfl, hq⟩; obtain rfl := hq.symm; first | rw [HA.out] | rw [HBb.out])
        | (go_at_call 138; refine Calls.mono HCo.out ?_; rintro e v ⟨rfl, hv, hs⟩; have HV : Hid (Bf.Rcv v (B (.rq i fl)) (rCome c.room ((s.r i fl).1, (s.r i fl).2) (fs : Nat)).1 (c.room : Nat) (rCome c.room ((s.r i fl).1, (s.r i fl).2) (fs : Nat)).2 ∧ Sans (fun j => j = B (.rq i fl)) X v) := ⟨hv, hs⟩; clear hv hs))
      go_ret
      have hrF := (HNX.out.own (.rq i fl) ⟨hi, hi2, hl⟩).1
      have hrb2 := HNX.out.st.rn i fl hi hi2 hl
      have n4 := HNX.out.upRcv (v := rCome c.room (s.r i fl) (fs : Nat)) hi hi2 hl HV.out.2 HV.out.1 (by rw [HNo.out]; omega)
      rw [HNo.out, up2_self] at n4
      exact ⟨rfl, F, ⟨_, _, _, _, _, rfl, n4.mono (by omega)⟩, (Sans.of_below HBwX.out).then (HV.out.2.mono (fun j e => by rw [e]; exact hrF)), fun j hj => .inl hj⟩
  · have HEE : Hid (E = 30) := by
      show _ = _
      rw [← HE.out]
      unfold dataE
      rw [if_neg hn]
    have HD : Hid (data c s i ⟨fk, fl, fs, fa, fb, fx⟩ = s) := data_no (by rw [HE.out, HEE.out]; decide)
    rw [HD.out, HEE.out]
    have HFin : Hid (InjEnd w F (B .p) c s (m + 2) 30 (.returned (.int .u16 30)) X) := ⟨rfl, F, ⟨_, _, _, _, _, rfl, HNX.out.mono (by omega)⟩, K.grows_below F HBwX.out⟩
    by_cases hna : fa < c.N
    · have HA : Hid ((decide (0 ≤ (fa : Int)) && decide ((fa : Int) < (c.N : Int))) = true) := by show _ = _; rw [decide_eq_true (by omega), decide_eq_true (by omega)]; rfl
      have HBb : Hid ((decide (0 ≤ (fb : Int)) && decide ((fb : Int) < (c.N : Int))) = false) := by
        show _ = _
        have : ¬ (fb : Int) < (c.N : Int) := fun e => hn ⟨hna, by omega⟩
        rw [decide_eq_false this, Bool.and_false]
      clear hn hna
      obtain ⟨x0, x1, x2, x3, x4, x5⟩ := HX.out
      go_enter Tryz.func83, Tryz.ntmps83
      go_upto_region 1 with fail
      rw [← hW]
      clear hW
      go_upto_region 2 with fail
      rw [← hX]
      clear hX x0 x1 x2 x3 x4 x5
      obtain ⟨p0, p1, p2, p3⟩ := HPk.out
      simp only [Nat.zero_add] at p1 p2 p3
      go_wp2_with (first
        | (go_at_call 42; refine (isnode_any HNX.out _ rfl).mono ?_; rintro e v ⟨rfl, hq⟩; obtain rfl := hq.symm; first | rw [HA.out] | rw [HBb.out]))
      go_ret
      exact HFin.out
    · have HA : Hid ((decide (0 ≤ (fa : Int)) && decide ((fa : Int) < (c.N : Int))) = false) := by
        show _ = _
        have : ¬ (fa : Int) < (c.N : Int) := by omega
        rw [decide_eq_false this, Bool.and_false]
      clear hn hna
      obtain ⟨x0, x1, x2, x3, x4, x5⟩ := HX.out
      go_enter Tryz.func83, Tryz.ntmps83
      go_upto_region 1 with fail
      rw [← hW]
      clear hW
      go_upto_region 2 with fail
      rw [← hX]
      clear hX x0 x1 x2 x3 x4 x5
      obtain ⟨p0, p1, p2, p3⟩ := HPk.out
      simp only [Nat.zero_add] at p1 p2 p3
      go_wp2_with (first
        | (go_at_call 42; refine (isnode_any HNX.out _ rfl).mono ?_; rintro e v ⟨rfl, hq⟩; obtain rfl := hq.symm; rw [HA.out]))
      go_ret
      exact HFin.out
end
end Nd
end Go.Proofs.YtniicgbkeifnjaaGreatDoor
