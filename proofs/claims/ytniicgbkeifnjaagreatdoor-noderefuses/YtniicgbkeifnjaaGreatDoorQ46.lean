/-
  Contracts and plain facts that the walks lean on (WireR, PktArg). Conditions: none but those that each states.
-/
import Derived.Test.YtniicgbkeifnjaaGreatDoorQ45
namespace Go.Proofs.YtniicgbkeifnjaaGreatDoor
open Go.ChangeShapes Go.WideShapes Go.ChangeAt Go.RowKit
set_option linter.unusedVariables false
set_option maxRecDepth 100000
theorem refEnc_to (f : Wire.Fr) (hf : f.ok ∧ f.sound = true) (n : Nat) (hn : f.enc.length = n) (w : World) :
    Calls Tryz.prog 31 #[fr f] w fun e w' => ∃ g cap, e = .returned (.tuple #[.slice (some ⟨g, 0, none⟩) n cap, .int .i64 0]) ∧ Own w' w.heap.size (some ⟨g, 0, none⟩) n cap f.enc ∧ Below w.heap.size w w' := by
  subst hn; exact refEnc_good f hf.1 hf.2 w
set_option maxHeartbeats 2000000 in
theorem refDec_A1 (b off len cap : Nat) (l : List Nat) (w : World) (ho : Octs w (some ⟨b, off, none⟩) len l) (h6 : 6 ≤ len) (hm : len ≤ 100) (hk : l.getD 0 0 ≠ 1) :
    Calls Tryz.prog 17 #[.slice (some ⟨b, off, none⟩) len cap] w fun e w' => e = .returned (decVal .i64 l) ∧ Below w.heap.size w w' := by
  have hlt : b < w.heap.size := by
    rcases ho.2.2.2 with h | ⟨b', off', e, h, _⟩
    · omega
    · cases e; exact h
  have cf : ∀ i, i < len → w.cell? ⟨b, off + i, none⟩ = some (.int .u8 (l.getD i 0 : Nat)) := by
    rcases ho.2.2.2 with h | ⟨b', off', e, h, hc⟩
    · omega
    · cases e; exact hc
  have g : ∀ i, l.getD i 0 < 256 := fun i => Oct_getD ho.2.2.1 i
  have f0 := cf 0 (by omega)
  have g0 := g 0
  have f1 := cf 1 (by omega)
  have g1 := g 1
  have f2 := cf 2 (by omega)
  have g2 := g 2
  have f3 := cf 3 (by omega)
  have g3 := g 3
  rw [Nat.add_zero] at f0
  have hbk : Wire.back2 l = Wire.rd false l := by
    unfold Wire.back2
    rw [ho.1, show decide (l.getD 0 0 = 1 ∧ 12 ≤ len) = false from decide_eq_false (by omega)]
  have hbk2 : Wire.back2 l = ⟨l.getD 0 0, l.getD 1 0, l.getD 2 0 * 256 + l.getD 3 0, 0, 0, 0⟩ := hbk
  have hok := Wire.back2_ok ho.2.2.1
  have hd2 := Wire.dec2_eq ho.2.2.1
  unfold Wire.dec2 at hd2
  rw [hbk2] at hok hd2
  rw [ho.1] at hd2
  obtain ⟨c0, hc0⟩ : ∃ c, c = l.getD 0 0 := ⟨_, rfl⟩
  obtain ⟨c1, hc1⟩ : ∃ c, c = l.getD 1 0 := ⟨_, rfl⟩
  obtain ⟨c2, hc2⟩ : ∃ c, c = l.getD 2 0 := ⟨_, rfl⟩
  obtain ⟨c3, hc3⟩ : ∃ c, c = l.getD 3 0 := ⟨_, rfl⟩
  rw [← hc0, ← hc1, ← hc2, ← hc3] at hok hd2
  rw [← hc0] at f0 g0 hk
  rw [← hc1] at f1 g1
  rw [← hc2] at f2 g2
  rw [← hc3] at f3 g3
  obtain ⟨q, hq⟩ : ∃ q, q = c2 * 256 + c3 := ⟨_, rfl⟩
  have hq6 : q < 65536 := by omega
  rw [← hq] at hok hd2
  have HQ : Hid (q = c2 * 256 + c3) := hq
  have HO : Hid (Octs w (some ⟨b, off, none⟩) len l) := ho
  have HD : Hid ((if 6 ≤ len ∧ (⟨c0, c1, q, 0, 0, 0⟩ : Wire.Fr).sound = true ∧ (⟨c0, c1, q, 0, 0, 0⟩ : Wire.Fr).enc = l then some ⟨c0, c1, q, 0, 0, 0⟩ else none) = Wire.dec l) := hd2
  have HK : Hid ((⟨c0, c1, q, 0, 0, 0⟩ : Wire.Fr).ok) := hok
  clear cf g ho hbk hbk2 hok hd2 hq hc0 hc1 hc2 hc3
  have hkb : ((c0 : Int) == 1) = false := by simp; omega
  have HK0 : Hid (0 = 0) := rfl
  clear hk
  have l6 : (6 : Int) ≤ len := by omega
  have n0 : ¬ b = w.heap.size := by omega
  have n1 : ¬ b = w.heap.size + 1 := by omega
  have j0 : 0 < len := by omega
  have i1 : (1 : Int) < len := by omega
  have i2 : (2 : Int) < len := by omega
  have i3 : (3 : Int) < len := by omega
  have hd1 : ∀ (W : World) (n : Nat) (a : Addr) (v : Value), (W.drewN n).setCell a v = (W.setCell a v).drewN n := fun _ _ _ _ => rfl
  have hd2 : ∀ (W : World) (n : Nat) (o : Obj), (W.drewN n).alloc o = (W.alloc o).drewN n := fun _ _ _ => rfl
  have y1 : IntKind.u16.wrap (c2 : Int) = c2 := by simp only [IntKind.wrap_u16]; omega
  have y2 : IntKind.u16.wrap ((c2 : Int) * 256) = (c2 : Int) * 256 := by simp only [IntKind.wrap_u16]; omega
  have y3 : IntKind.u16.wrap (c3 : Int) = c3 := by simp only [IntKind.wrap_u16]; omega
  have y4 : IntKind.u16.wrap ((c2 : Int) * 256 + (c3 : Int)) = q := by have := HQ.out; simp only [IntKind.wrap_u16]; omega
  go_enter Tryz.func17, Tryz.ntmps17
  go_wp2_with fail
  go_region_held3 (fun w' => w'.cell? ⟨b, off, none⟩ = some (.int .u8 (c0 : Nat)) ∧ w'.cell? ⟨b, off + 1, none⟩ = some (.int .u8 (c1 : Nat)) ∧ w'.cell? ⟨b, off + 2, none⟩ = some (.int .u8 (c2 : Nat)) ∧ w'.cell? ⟨b, off + 3, none⟩ = some (.int .u8 (c3 : Nat))) (first | go_keep | (exact ⟨kept (by repeat' (first | (with_reducible exact Below.refl _ _) | (with_reducible refine Below.setCell ?_ ?_ _) | (with_reducible refine Below.drewN' ?_ _) | (with_reducible refine Below.drew ?_) | (with_reducible refine Below.alloc ?_ ?_ _) | (simp; done))) hlt f0, kept (by repeat' (first | (with_reducible exact Below.refl _ _) | (with_reducible refine Below.setCell ?_ ?_ _) | (with_reducible refine Below.drewN' ?_ _) | (with_reducible refine Below.drew ?_) | (with_reducible refine Below.alloc ?_ ?_ _) | (simp; done))) hlt f1, kept (by repeat' (first | (with_reducible exact Below.refl _ _) | (with_reducible refine Below.setCell ?_ ?_ _) | (with_reducible refine Below.drewN' ?_ _) | (with_reducible refine Below.drew ?_) | (with_reducible refine Below.alloc ?_ ?_ _) | (simp; done))) hlt f2, kept (by repeat' (first | (with_reducible exact Below.refl _ _) | (with_reducible refine Below.setCell ?_ ?_ _) | (with_reducible refine Below.drewN' ?_ _) | (with_reducible refine Below.drew ?_) | (with_reducible refine Below.alloc ?_ ?_ _) | (simp; done))) hlt f3⟩)) (fail)
  go_wp2_with fail
  cases hs : (⟨c0, c1, q, 0, 0, 0⟩ : Wire.Fr).sound with
  | false =>
    have HV : Hid (decVal .i64 l = .tuple #[.agg #[.int .u8 0, .int .u8 0, .int .u16 0, .int .u8 0, .int .u8 0, .int .u32 0], .int .i64 30]) := bad_val (k := .i64) (by rw [← HD.out, hs]; simp)
    refine (refEnc_bad ⟨c0, c1, q, 0, 0, 0⟩ HK.out hs _).mono ?_
    rintro e u1 ⟨rfl, h1⟩
    have hbel : Below w.heap.size w u1 := later (by repeat' (first | (with_reducible exact Below.refl _ _) | (with_reducible refine Below.setCell ?_ ?_ _) | (with_reducible refine Below.drewN' ?_ _) | (with_reducible refine Below.drew ?_) | (with_reducible refine Below.alloc ?_ ?_ _) | (simp; done))) h1
    obtain ⟨hc, hf⟩ := bcell h1
    have hcR := fun o => hc w.heap.size o (by simp; omega)
    clear hs
    go_wp2_with fail
    exact bodyPost_ret (v := .tuple #[.agg #[.int .u8 0, .int .u8 0, .int .u16 0, .int .u8 0, .int .u8 0, .int .u32 0], .int .i64 30]) (by simp [results, Tryz.results17, go_sem, hcR]) rfl ⟨by rw [HV.out], (by repeat' (first | (with_reducible exact hbel) | (with_reducible refine Below.setCell ?_ ?_ _) | (with_reducible refine Below.drewN' ?_ _) | (with_reducible refine Below.drew ?_) | (with_reducible refine Below.alloc ?_ ?_ _) | (simp; done) | omega))⟩
  | true =>
    obtain ⟨n1, hn1⟩ : ∃ n, (⟨c0, c1, q, 0, 0, 0⟩ : Wire.Fr).enc.length = n := ⟨_, rfl⟩
    obtain ⟨S1, hS1⟩ : ∃ S, strOf (⟨c0, c1, q, 0, 0, 0⟩ : Wire.Fr).enc = S := ⟨_, rfl⟩
    obtain ⟨S2, hS2⟩ : ∃ S, strOf l = S := ⟨_, rfl⟩
    by_cases he : (⟨c0, c1, q, 0, 0, 0⟩ : Wire.Fr).enc = l
    · have HV : Hid (decVal .i64 l = .tuple #[.agg #[.int .u8 (c0 : Nat), .int .u8 (c1 : Nat), .int .u16 (q : Nat), .int .u8 0, .int .u8 0, .int .u32 0], .int .i64 0]) := good_val (k := .i64) (f := ⟨c0, c1, q, 0, 0, 0⟩) (by rw [← HD.out, if_pos ⟨h6, hs, he⟩])
      have hS3 : S2 = S1 := by rw [← hS1, ← hS2, he]
      rw [hS3] at hS2
      refine (refEnc_to ⟨c0, c1, q, 0, 0, 0⟩ ⟨HK.out, hs⟩ n1 hn1 _).mono ?_
      rintro e u1 ⟨g1, k1, rfl, o1, h1⟩
      have hbel : Below w.heap.size w u1 := later (by repeat' (first | (with_reducible exact Below.refl _ _) | (with_reducible refine Below.setCell ?_ ?_ _) | (with_reducible refine Below.drewN' ?_ _) | (with_reducible refine Below.drew ?_) | (with_reducible refine Below.alloc ?_ ?_ _) | (simp; done))) h1
      have r1 := str_run (cap := k1) o1.octs
      have r2 := str_run (cap := cap) (HO.out.below hbel)
      rw [hS1] at r1
      rw [hS2] at r2
      obtain ⟨hc, hf⟩ := bcell h1
      have hcR := fun o => hc w.heap.size o (by simp; omega)
      clear hs he hn1 hS1 hS2 hS3 o1
      go_wp2_with fail
      exact bodyPost_ret (v := .tuple #[.agg #[.int .u8 (c0 : Nat), .int .u8 (c1 : Nat), .int .u16 (q : Nat), .int .u8 0, .int .u8 0, .int .u32 0], .int .i64 0]) (by simp [results, Tryz.results17, go_sem, hcR]) rfl ⟨by rw [HV.out], (by repeat' (first | (with_reducible exact hbel) | (with_reducible refine Below.setCell ?_ ?_ _) | (with_reducible refine Below.drewN' ?_ _) | (with_reducible refine Below.drew ?_) | (with_reducible refine Below.alloc ?_ ?_ _) | (simp; done) | omega))⟩
    · have HV : Hid (decVal .i64 l = .tuple #[.agg #[.int .u8 0, .int .u8 0, .int .u16 0, .int .u8 0, .int .u8 0, .int .u32 0], .int .i64 30]) := bad_val (k := .i64) (by rw [← HD.out, if_neg (fun h => he h.2.2)])
      have hst0 : (S1.toList == S2.toList) = false := by
        have := str_beq (Wire.enc_oct HK.out) HO.out.2.2.1
        rw [← hS1, ← hS2, this, decide_eq_false he]
      have hst1 : (S1.toList != S2.toList) = true := by rw [bne, hst0]; rfl
      have hst2 : ¬ S1.toList = S2.toList := by simpa using hst0
      have hst3 : ¬ S1 = S2 := fun h => hst2 (by rw [h])
      refine (refEnc_to ⟨c0, c1, q, 0, 0, 0⟩ ⟨HK.out, hs⟩ n1 hn1 _).mono ?_
      rintro e u1 ⟨g1, k1, rfl, o1, h1⟩
      have hbel : Below w.heap.size w u1 := later (by repeat' (first | (with_reducible exact Below.refl _ _) | (with_reducible refine Below.setCell ?_ ?_ _) | (with_reducible refine Below.drewN' ?_ _) | (with_reducible refine Below.drew ?_) | (with_reducible refine Below.alloc ?_ ?_ _) | (simp; done))) h1
      have r1 := str_run (cap := k1) o1.octs
      have r2 := str_run (cap := cap) (HO.out.below hbel)
      rw [hS1] at r1
      rw [hS2] at r2
      obtain ⟨hc, hf⟩ := bcell h1
      have hcR := fun o => hc w.heap.size o (by simp; omega)
      clear hs he hn1 hS1 hS2 o1
      go_wp2_with fail
      exact bodyPost_ret (v := .tuple #[.agg #[.int .u8 0, .int .u8 0, .int .u16 0, .int .u8 0, .int .u8 0, .int .u32 0], .int .i64 30]) (by simp [results, Tryz.results17, go_sem, hcR]) rfl ⟨by rw [HV.out], (by repeat' (first | (with_reducible exact hbel) | (with_reducible refine Below.setCell ?_ ?_ _) | (with_reducible refine Below.drewN' ?_ _) | (with_reducible refine Below.drew ?_) | (with_reducible refine Below.alloc ?_ ?_ _) | (simp; done) | omega))⟩
set_option maxHeartbeats 2000000 in
theorem refDec_A2 (b off len cap : Nat) (l : List Nat) (w : World) (ho : Octs w (some ⟨b, off, none⟩) len l) (h6 : 6 ≤ len) (hm : len ≤ 100) (hk : l.getD 0 0 = 1) (h12 : len < 12) :
    Calls Tryz.prog 17 #[.slice (some ⟨b, off, none⟩) len cap] w fun e w' => e = .returned (decVal .i64 l) ∧ Below w.heap.size w w' := by
  have hlt : b < w.heap.size := by
    rcases ho.2.2.2 with h | ⟨b', off', e, h, _⟩
    · omega
    · cases e; exact h
  have cf : ∀ i, i < len → w.cell? ⟨b, off + i, none⟩ = some (.int .u8 (l.getD i 0 : Nat)) := by
    rcases ho.2.2.2 with h | ⟨b', off', e, h, hc⟩
    · omega
    · cases e; exact hc
  have g : ∀ i, l.getD i 0 < 256 := fun i => Oct_getD ho.2.2.1 i
  have f0 := cf 0 (by omega)
  have g0 := g 0
  have f1 := cf 1 (by omega)
  have g1 := g 1
  have f2 := cf 2 (by omega)
  have g2 := g 2
  have f3 := cf 3 (by omega)
  have g3 := g 3
  rw [Nat.add_zero] at f0
  have hbk : Wire.back2 l = Wire.rd false l := by
    unfold Wire.back2
    rw [ho.1, show decide (l.getD 0 0 = 1 ∧ 12 ≤ len) = false from decide_eq_false (by omega)]
  have hbk2 : Wire.back2 l = ⟨l.getD 0 0, l.getD 1 0, l.getD 2 0 * 256 + l.getD 3 0, 0, 0, 0⟩ := hbk
  have hok := Wire.back2_ok ho.2.2.1
  have hd2 := Wire.dec2_eq ho.2.2.1
  unfold Wire.dec2 at hd2
  rw [hbk2] at hok hd2
  rw [ho.1] at hd2
  obtain ⟨c0, hc0⟩ : ∃ c, c = l.getD 0 0 := ⟨_, rfl⟩
  obtain ⟨c1, hc1⟩ : ∃ c, c = l.getD 1 0 := ⟨_, rfl⟩
  obtain ⟨c2, hc2⟩ : ∃ c, c = l.getD 2 0 := ⟨_, rfl⟩
  obtain ⟨c3, hc3⟩ : ∃ c, c = l.getD 3 0 := ⟨_, rfl⟩
  rw [← hc0, ← hc1, ← hc2, ← hc3] at hok hd2
  rw [← hc0] at f0 g0 hk
  rw [← hc1] at f1 g1
  rw [← hc2] at f2 g2
  rw [← hc3] at f3 g3
  obtain ⟨q, hq⟩ : ∃ q, q = c2 * 256 + c3 := ⟨_, rfl⟩
  have hq6 : q < 65536 := by omega
  rw [← hq] at hok hd2
  have HQ : Hid (q = c2 * 256 + c3) := hq
  have HO : Hid (Octs w (some ⟨b, off, none⟩) len l) := ho
  have HD : Hid ((if 6 ≤ len ∧ (⟨c0, c1, q, 0, 0, 0⟩ : Wire.Fr).sound = true ∧ (⟨c0, c1, q, 0, 0, 0⟩ : Wire.Fr).enc = l then some ⟨c0, c1, q, 0, 0, 0⟩ else none) = Wire.dec l) := hd2
  have HK : Hid ((⟨c0, c1, q, 0, 0, 0⟩ : Wire.Fr).ok) := hok
  clear cf g ho hbk hbk2 hok hd2 hq hc0 hc1 hc2 hc3
  have hkb : ((c0 : Int) == 1) = true := by rw [hk]; rfl
  have l12 : (len : Int) < 12 := by omega
  have HK0 : Hid (0 = 0) := rfl
  clear hk
  have l6 : (6 : Int) ≤ len := by omega
  have n0 : ¬ b = w.heap.size := by omega
  have n1 : ¬ b = w.heap.size + 1 := by omega
  have j0 : 0 < len := by omega
  have i1 : (1 : Int) < len := by omega
  have i2 : (2 : Int) < len := by omega
  have i3 : (3 : Int) < len := by omega
  have hd1 : ∀ (W : World) (n : Nat) (a : Addr) (v : Value), (W.drewN n).setCell a v = (W.setCell a v).drewN n := fun _ _ _ _ => rfl
  have hd2 : ∀ (W : World) (n : Nat) (o : Obj), (W.drewN n).alloc o = (W.alloc o).drewN n := fun _ _ _ => rfl
  have y1 : IntKind.u16.wrap (c2 : Int) = c2 := by simp only [IntKind.wrap_u16]; omega
  have y2 : IntKind.u16.wrap ((c2 : Int) * 256) = (c2 : Int) * 256 := by simp only [IntKind.wrap_u16]; omega
  have y3 : IntKind.u16.wrap (c3 : Int) = c3 := by simp only [IntKind.wrap_u16]; omega
  have y4 : IntKind.u16.wrap ((c2 : Int) * 256 + (c3 : Int)) = q := by have := HQ.out; simp only [IntKind.wrap_u16]; omega
  go_enter Tryz.func17, Tryz.ntmps17
  go_wp2_with fail
  go_region_held3 (fun w' => w'.cell? ⟨b, off, none⟩ = some (.int .u8 (c0 : Nat)) ∧ w'.cell? ⟨b, off + 1, none⟩ = some (.int .u8 (c1 : Nat)) ∧ w'.cell? ⟨b, off + 2, none⟩ = some (.int .u8 (c2 : Nat)) ∧ w'.cell? ⟨b, off + 3, none⟩ = some (.int .u8 (c3 : Nat))) (first | go_keep | (exact ⟨kept (by repeat' (first | (with_reducible exact Below.refl _ _) | (with_reducible refine Below.setCell ?_ ?_ _) | (with_reducible refine Below.drewN' ?_ _) | (with_reducible refine Below.drew ?_) | (with_reducible refine Below.alloc ?_ ?_ _) | (simp; done))) hlt f0, kept (by repeat' (first | (with_reducible exact Below.refl _ _) | (with_reducible refine Below.setCell ?_ ?_ _) | (with_reducible refine Below.drewN' ?_ _) | (with_reducible refine Below.drew ?_) | (with_reducible refine Below.alloc ?_ ?_ _) | (simp; done))) hlt f1, kept (by repeat' (first | (with_reducible exact Below.refl _ _) | (with_reducible refine Below.setCell ?_ ?_ _) | (with_reducible refine Below.drewN' ?_ _) | (with_reducible refine Below.drew ?_) | (with_reducible refine Below.alloc ?_ ?_ _) | (simp; done))) hlt f2, kept (by repeat' (first | (with_reducible exact Below.refl _ _) | (with_reducible refine Below.setCell ?_ ?_ _) | (with_reducible refine Below.drewN' ?_ _) | (with_reducible refine Below.drew ?_) | (with_reducible refine Below.alloc ?_ ?_ _) | (simp; done))) hlt f3⟩)) (fail)
  go_wp2_with fail
  cases hs : (⟨c0, c1, q, 0, 0, 0⟩ : Wire.Fr).sound with
  | false =>
    have HV : Hid (decVal .i64 l = .tuple #[.agg #[.int .u8 0, .int .u8 0, .int .u16 0, .int .u8 0, .int .u8 0, .int .u32 0], .int .i64 30]) := bad_val (k := .i64) (by rw [← HD.out, hs]; simp)
    refine (refEnc_bad ⟨c0, c1, q, 0, 0, 0⟩ HK.out hs _).mono ?_
    rintro e u1 ⟨rfl, h1⟩
    have hbel : Below w.heap.size w u1 := later (by repeat' (first | (with_reducible exact Below.refl _ _) | (with_reducible refine Below.setCell ?_ ?_ _) | (with_reducible refine Below.drewN' ?_ _) | (with_reducible refine Below.drew ?_) | (with_reducible refine Below.alloc ?_ ?_ _) | (simp; done))) h1
    obtain ⟨hc, hf⟩ := bcell h1
    have hcR := fun o => hc w.heap.size o (by simp; omega)
    clear hs
    go_wp2_with fail
    exact bodyPost_ret (v := .tuple #[.agg #[.int .u8 0, .int .u8 0, .int .u16 0, .int .u8 0, .int .u8 0, .int .u32 0], .int .i64 30]) (by simp [results, Tryz.results17, go_sem, hcR]) rfl ⟨by rw [HV.out], (by repeat' (first | (with_reducible exact hbel) | (with_reducible refine Below.setCell ?_ ?_ _) | (with_reducible refine Below.drewN' ?_ _) | (with_reducible refine Below.drew ?_) | (with_reducible refine Below.alloc ?_ ?_ _) | (simp; done) | omega))⟩
  | true =>
    obtain ⟨n1, hn1⟩ : ∃ n, (⟨c0, c1, q, 0, 0, 0⟩ : Wire.Fr).enc.length = n := ⟨_, rfl⟩
    obtain ⟨S1, hS1⟩ : ∃ S, strOf (⟨c0, c1, q, 0, 0, 0⟩ : Wire.Fr).enc = S := ⟨_, rfl⟩
    obtain ⟨S2, hS2⟩ : ∃ S, strOf l = S := ⟨_, rfl⟩
    by_cases he : (⟨c0, c1, q, 0, 0, 0⟩ : Wire.Fr).enc = l
    · have HV : Hid (decVal .i64 l = .tuple #[.agg #[.int .u8 (c0 : Nat), .int .u8 (c1 : Nat), .int .u16 (q : Nat), .int .u8 0, .int .u8 0, .int .u32 0], .int .i64 0]) := good_val (k := .i64) (f := ⟨c0, c1, q, 0, 0, 0⟩) (by rw [← HD.out, if_pos ⟨h6, hs, he⟩])
      have hS3 : S2 = S1 := by rw [← hS1, ← hS2, he]
      rw [hS3] at hS2
      refine (refEnc_to ⟨c0, c1, q, 0, 0, 0⟩ ⟨HK.out, hs⟩ n1 hn1 _).mono ?_
      rintro e u1 ⟨g1, k1, rfl, o1, h1⟩
      have hbel : Below w.heap.size w u1 := later (by repeat' (first | (with_reducible exact Below.refl _ _) | (with_reducible refine Below.setCell ?_ ?_ _) | (with_reducible refine Below.drewN' ?_ _) | (with_reducible refine Below.drew ?_) | (with_reducible refine Below.alloc ?_ ?_ _) | (simp; done))) h1
      have r1 := str_run (cap := k1) o1.octs
      have r2 := str_run (cap := cap) (HO.out.below hbel)
      rw [hS1] at r1
      rw [hS2] at r2
      obtain ⟨hc, hf⟩ := bcell h1
      have hcR := fun o => hc w.heap.size o (by simp; omega)
      clear hs he hn1 hS1 hS2 hS3 o1
      go_wp2_with fail
      exact bodyPost_ret (v := .tuple #[.agg #[.int .u8 (c0 : Nat), .int .u8 (c1 : Nat), .int .u16 (q : Nat), .int .u8 0, .int .u8 0, .int .u32 0], .int .i64 0]) (by simp [results, Tryz.results17, go_sem, hcR]) rfl ⟨by rw [HV.out], (by repeat' (first | (with_reducible exact hbel) | (with_reducible refine Below.setCell ?_ ?_ _) | (with_reducible refine Below.drewN' ?_ _) | (with_reducible refine Below.drew ?_) | (with_reducible refine Below.alloc ?_ ?_ _) | (simp; done) | omega))⟩
    · have HV : Hid (decVal .i64 l = .tuple #[.agg #[.int .u8 0, .int .u8 0, .int .u16 0, .int .u8 0, .int .u8 0, .int .u32 0], .int .i64 30]) := bad_val (k := .i64) (by rw [← HD.out, if_neg (fun h => he h.2.2)])
      have hst0 : (S1.toList == S2.toList) = false := by
        have := str_beq (Wire.enc_oct HK.out) HO.out.2.2.1
        rw [← hS1, ← hS2, this, decide_eq_false he]
      have hst1 : (S1.toList != S2.toList) = true := by rw [bne, hst0]; rfl
      have hst2 : ¬ S1.toList = S2.toList := by simpa using hst0
      have hst3 : ¬ S1 = S2 := fun h => hst2 (by rw [h])
      refine (refEnc_to ⟨c0, c1, q, 0, 0, 0⟩ ⟨HK.out, hs⟩ n1 hn1 _).mono ?_
      rintro e u1 ⟨g1, k1, rfl, o1, h1⟩
      have hbel : Below w.heap.size w u1 := later (by repeat' (first | (with_reducible exact Below.refl _ _) | (with_reducible refine Below.setCell ?_ ?_ _) | (with_reducible refine Below.drewN' ?_ _) | (with_reducible refine Below.drew ?_) | (with_reducible refine Below.alloc ?_ ?_ _) | (simp; done))) h1
      have r1 := str_run (cap := k1) o1.octs
      have r2 := str_run (cap := cap) (HO.out.below hbel)
      rw [hS1] at r1
      rw [hS2] at r2
      obtain ⟨hc, hf⟩ := bcell h1
      have hcR := fun o => hc w.heap.size o (by simp; omega)
      clear hs he hn1 hS1 hS2 o1
      go_wp2_with fail
      exact bodyPost_ret (v := .tuple #[.agg #[.int .u8 0, .int .u8 0, .int .u16 0, .int .u8 0, .int .u8 0, .int .u32 0], .int .i64 30]) (by simp [results, Tryz.results17, go_sem, hcR]) rfl ⟨by rw [HV.out], (by repeat' (first | (with_reducible exact hbel) | (with_reducible refine Below.setCell ?_ ?_ _) | (with_reducible refine Below.drewN' ?_ _) | (with_reducible refine Below.drew ?_) | (with_reducible refine Below.alloc ?_ ?_ _) | (simp; done) | omega))⟩
set_option maxHeartbeats 2000000 in
theorem refDec_B (b off len cap : Nat) (l : List Nat) (w : World) (ho : Octs w (some ⟨b, off, none⟩) len l) (h6 : 6 ≤ len) (hm : len ≤ 100) (hk : l.getD 0 0 = 1) (h12 : 12 ≤ len) :
    Calls Tryz.prog 17 #[.slice (some ⟨b, off, none⟩) len cap] w fun e w' => e = .returned (decVal .i64 l) ∧ Below w.heap.size w w' := by
  have hlt : b < w.heap.size := by
    rcases ho.2.2.2 with h | ⟨b', off', e, h, _⟩
    · omega
    · cases e; exact h
  have cf : ∀ i, i < len → w.cell? ⟨b, off + i, none⟩ = some (.int .u8 (l.getD i 0 : Nat)) := by
    rcases ho.2.2.2 with h | ⟨b', off', e, h, hc⟩
    · omega
    · cases e; exact hc
  have g : ∀ i, l.getD i 0 < 256 := fun i => Oct_getD ho.2.2.1 i
  have f0 := cf 0 (by omega)
  have g0 := g 0
  have f1 := cf 1 (by omega)
  have g1 := g 1
  have f2 := cf 2 (by omega)
  have g2 := g 2
  have f3 := cf 3 (by omega)
  have g3 := g 3
  have f4 := cf 4 (by omega)
  have g4 := g 4
  have f5 := cf 5 (by omega)
  have g5 := g 5
  have f6 := cf 6 (by omega)
  have g6 := g 6
  have f7 := cf 7 (by omega)
  have g7 := g 7
  have f8 := cf 8 (by omega)
  have g8 := g 8
  have f9 := cf 9 (by omega)
  have g9 := g 9
  rw [Nat.add_zero] at f0
  have hbk : Wire.back2 l = Wire.rd true l := by
    unfold Wire.back2
    rw [ho.1, show decide (l.getD 0 0 = 1 ∧ 12 ≤ len) = true from decide_eq_true ⟨hk, h12⟩]
  have hbk2 : Wire.back2 l = ⟨l.getD 0 0, l.getD 1 0, l.getD 2 0 * 256 + l.getD 3 0, l.getD 4 0, l.getD 5 0, l.getD 6 0 * 16777216 + l.getD 7 0 * 65536 + l.getD 8 0 * 256 + l.getD 9 0⟩ := hbk
  have hok := Wire.back2_ok ho.2.2.1
  have hd2 := Wire.dec2_eq ho.2.2.1
  unfold Wire.dec2 at hd2
  rw [hbk2] at hok hd2
  rw [ho.1] at hd2
  obtain ⟨c0, hc0⟩ : ∃ c, c = l.getD 0 0 := ⟨_, rfl⟩
  obtain ⟨c1, hc1⟩ : ∃ c, c = l.getD 1 0 := ⟨_, rfl⟩
  obtain ⟨c2, hc2⟩ : ∃ c, c = l.getD 2 0 := ⟨_, rfl⟩
  obtain ⟨c3, hc3⟩ : ∃ c, c = l.getD 3 0 := ⟨_, rfl⟩
  obtain ⟨c4, hc4⟩ : ∃ c, c = l.getD 4 0 := ⟨_, rfl⟩
  obtain ⟨c5, hc5⟩ : ∃ c, c = l.getD 5 0 := ⟨_, rfl⟩
  obtain ⟨c6, hc6⟩ : ∃ c, c = l.getD 6 0 := ⟨_, rfl⟩
  obtain ⟨c7, hc7⟩ : ∃ c, c = l.getD 7 0 := ⟨_, rfl⟩
  obtain ⟨c8, hc8⟩ : ∃ c, c = l.getD 8 0 := ⟨_, rfl⟩
  obtain ⟨c9, hc9⟩ : ∃ c, c = l.getD 9 0 := ⟨_, rfl⟩
  rw [← hc0, ← hc1, ← hc2, ← hc3, ← hc4, ← hc5, ← hc6, ← hc7, ← hc8, ← hc9] at hok hd2
  rw [← hc0] at f0 g0 hk
  rw [← hc1] at f1 g1
  rw [← hc2] at f2 g2
  rw [← hc3] at f3 g3
  rw [← hc4] at f4 g4
  rw [← hc5] at f5 g5
  rw [← hc6] at f6 g6
  rw [← hc7] at f7 g7
  rw [← hc8] at f8 g8
  rw [← hc9] at f9 g9
  obtain ⟨q, hq⟩ : ∃ q, q = c2 * 256 + c3 := ⟨_, rfl⟩
  have hq6 : q < 65536 := by omega
  obtain ⟨y, hy⟩ : ∃ y, y = c6 * 16777216 + c7 * 65536 + c8 * 256 + c9 := ⟨_, rfl⟩
  rw [← hq, ← hy] at hok hd2
  have HQ : Hid (q = c2 * 256 + c3 ∧ y = c6 * 16777216 + c7 * 65536 + c8 * 256 + c9) := ⟨hq, hy⟩
  have HO : Hid (Octs w (some ⟨b, off, none⟩) len l) := ho
  have HD : Hid ((if 6 ≤ len ∧ (⟨c0, c1, q, c4, c5, y⟩ : Wire.Fr).sound = true ∧ (⟨c0, c1, q, c4, c5, y⟩ : Wire.Fr).enc = l then some ⟨c0, c1, q, c4, c5, y⟩ else none) = Wire.dec l) := hd2
  have HK : Hid ((⟨c0, c1, q, c4, c5, y⟩ : Wire.Fr).ok) := hok
  clear cf g ho hbk hbk2 hok hd2 hq hy hc0 hc1 hc2 hc3 hc4 hc5 hc6 hc7 hc8 hc9
  have hkb : ((c0 : Int) == 1) = true := by rw [hk]; rfl
  have l12 : (12 : Int) ≤ len := by omega
  have HK0 : Hid (0 = 0) := rfl
  clear hk
  have l6 : (6 : Int) ≤ len := by omega
  have n0 : ¬ b = w.heap.size := by omega
  have n1 : ¬ b = w.heap.size + 1 := by omega
  have j0 : 0 < len := by omega
  have i1 : (1 : Int) < len := by omega
  have i2 : (2 : Int) < len := by omega
  have i3 : (3 : Int) < len := by omega
  have i4 : (4 : Int) < len := by omega
  have i5 : (5 : Int) < len := by omega
  have i6 : (6 : Int) < len := by omega
  have i7 : (7 : Int) < len := by omega
  have i8 : (8 : Int) < len := by omega
  have i9 : (9 : Int) < len := by omega
  have hd1 : ∀ (W : World) (n : Nat) (a : Addr) (v : Value), (W.drewN n).setCell a v = (W.setCell a v).drewN n := fun _ _ _ _ => rfl
  have hd2 : ∀ (W : World) (n : Nat) (o : Obj), (W.drewN n).alloc o = (W.alloc o).drewN n := fun _ _ _ => rfl
  have y1 : IntKind.u16.wrap (c2 : Int) = c2 := by simp only [IntKind.wrap_u16]; omega
  have y2 : IntKind.u16.wrap ((c2 : Int) * 256) = (c2 : Int) * 256 := by simp only [IntKind.wrap_u16]; omega
  have y3 : IntKind.u16.wrap (c3 : Int) = c3 := by simp only [IntKind.wrap_u16]; omega
  have y4 : IntKind.u16.wrap ((c2 : Int) * 256 + (c3 : Int)) = q := by have := HQ.out; simp only [IntKind.wrap_u16]; omega
  go_enter Tryz.func17, Tryz.ntmps17
  go_wp2_with fail
  go_region_held3 (fun w' => w'.cell? ⟨b, off, none⟩ = some (.int .u8 (c0 : Nat)) ∧ w'.cell? ⟨b, off + 1, none⟩ = some (.int .u8 (c1 : Nat)) ∧ w'.cell? ⟨b, off + 2, none⟩ = some (.int .u8 (c2 : Nat)) ∧ w'.cell? ⟨b, off + 3, none⟩ = some (.int .u8 (c3 : Nat))) (first | go_keep | (exact ⟨kept (by repeat' (first | (with_reducible exact Below.refl _ _) | (with_reducible refine Below.setCell ?_ ?_ _) | (with_reducible refine Below.drewN' ?_ _) | (with_reducible refine Below.drew ?_) | (with_reducible refine Below.alloc ?_ ?_ _) | (simp; done))) hlt f0, kept (by repeat' (first | (with_reducible exact Below.refl _ _) | (with_reducible refine Below.setCell ?_ ?_ _) | (with_reducible refine Below.drewN' ?_ _) | (with_reducible refine Below.drew ?_) | (with_reducible refine Below.alloc ?_ ?_ _) | (simp; done))) hlt f1, kept (by repeat' (first | (with_reducible exact Below.refl _ _) | (with_reducible refine Below.setCell ?_ ?_ _) | (with_reducible refine Below.drewN' ?_ _) | (with_reducible refine Below.drew ?_) | (with_reducible refine Below.alloc ?_ ?_ _) | (simp; done))) hlt f2, kept (by repeat' (first | (with_reducible exact Below.refl _ _) | (with_reducible refine Below.setCell ?_ ?_ _) | (with_reducible refine Below.drewN' ?_ _) | (with_reducible refine Below.drew ?_) | (with_reducible refine Below.alloc ?_ ?_ _) | (simp; done))) hlt f3⟩)) (fail)
  go_wp2_with fail
  go_region_held3 (fun w' => w'.cell? ⟨b, off + 6, none⟩ = some (.int .u8 (c6 : Nat)) ∧ w'.cell? ⟨b, off + 7, none⟩ = some (.int .u8 (c7 : Nat)) ∧ w'.cell? ⟨b, off + 8, none⟩ = some (.int .u8 (c8 : Nat)) ∧ w'.cell? ⟨b, off + 9, none⟩ = some (.int .u8 (c9 : Nat))) (first | go_keep | (exact ⟨kept (by repeat' (first | (with_reducible exact Below.refl _ _) | (with_reducible refine Below.setCell ?_ ?_ _) | (with_reducible refine Below.drewN' ?_ _) | (with_reducible refine Below.drew ?_) | (with_reducible refine Below.alloc ?_ ?_ _) | (simp; done))) hlt f6, kept (by repeat' (first | (with_reducible exact Below.refl _ _) | (with_reducible refine Below.setCell ?_ ?_ _) | (with_reducible refine Below.drewN' ?_ _) | (with_reducible refine Below.drew ?_) | (with_reducible refine Below.alloc ?_ ?_ _) | (simp; done))) hlt f7, kept (by repeat' (first | (with_reducible exact Below.refl _ _) | (with_reducible refine Below.setCell ?_ ?_ _) | (with_reducible refine Below.drewN' ?_ _) | (with_reducible refine Below.drew ?_) | (with_reducible refine Below.alloc ?_ ?_ _) | (simp; done))) hlt f8, kept (by repeat' (first | (with_reducible exact Below.refl _ _) | (with_reducible refine Below.setCell ?_ ?_ _) | (with_reducible refine Below.drewN' ?_ _) | (with_reducible refine Below.drew ?_) | (with_reducible refine Below.alloc ?_ ?_ _) | (simp; done))) hlt f9⟩)) (fail)
  go_wp2_with fail
  rw [show ((c6 : Int) * 16777216 + (c7 : Int) * 65536 + (c8 : Int) * 256 + (c9 : Int)) = (y : Int) by have := HQ.out.2; omega]
  cases hs : (⟨c0, c1, q, c4, c5, y⟩ : Wire.Fr).sound with
  | false =>
    have HV : Hid (decVal .i64 l = .tuple #[.agg #[.int .u8 0, .int .u8 0, .int .u16 0, .int .u8 0, .int .u8 0, .int .u32 0], .int .i64 30]) := bad_val (k := .i64) (by rw [← HD.out, hs]; simp)
    refine (refEnc_bad ⟨c0, c1, q, c4, c5, y⟩ HK.out hs _).mono ?_
    rintro e u1 ⟨rfl, h1⟩
    have hbel : Below w.heap.size w u1 := later (by repeat' (first | (with_reducible exact Below.refl _ _) | (with_reducible refine Below.setCell ?_ ?_ _) | (with_reducible refine Below.drewN' ?_ _) | (with_reducible refine Below.drew ?_) | (with_reducible refine Below.alloc ?_ ?_ _) | (simp; done))) h1
    obtain ⟨hc, hf⟩ := bcell h1
    have hcR := fun o => hc w.heap.size o (by simp; omega)
    clear hs
    go_wp2_with fail
    exact bodyPost_ret (v := .tuple #[.agg #[.int .u8 0, .int .u8 0, .int .u16 0, .int .u8 0, .int .u8 0, .int .u32 0], .int .i64 30]) (by simp [results, Tryz.results17, go_sem, hcR]) rfl ⟨by rw [HV.out], (by repeat' (first | (with_reducible exact hbel) | (with_reducible refine Below.setCell ?_ ?_ _) | (with_reducible refine Below.drewN' ?_ _) | (with_reducible refine Below.drew ?_) | (with_reducible refine Below.alloc ?_ ?_ _) | (simp; done) | omega))⟩
  | true =>
    obtain ⟨n1, hn1⟩ : ∃ n, (⟨c0, c1, q, c4, c5, y⟩ : Wire.Fr).enc.length = n := ⟨_, rfl⟩
    obtain ⟨S1, hS1⟩ : ∃ S, strOf (⟨c0, c1, q, c4, c5, y⟩ : Wire.Fr).enc = S := ⟨_, rfl⟩
    obtain ⟨S2, hS2⟩ : ∃ S, strOf l = S := ⟨_, rfl⟩
    by_cases he : (⟨c0, c1, q, c4, c5, y⟩ : Wire.Fr).enc = l
    · have HV : Hid (decVal .i64 l = .tuple #[.agg #[.int .u8 (c0 : Nat), .int .u8 (c1 : Nat), .int .u16 (q : Nat), .int .u8 (c4 : Nat), .int .u8 (c5 : Nat), .int .u32 (y : Nat)], .int .i64 0]) := good_val (k := .i64) (f := ⟨c0, c1, q, c4, c5, y⟩) (by rw [← HD.out, if_pos ⟨h6, hs, he⟩])
      have hS3 : S2 = S1 := by rw [← hS1, ← hS2, he]
      rw [hS3] at hS2
      refine (refEnc_to ⟨c0, c1, q, c4, c5, y⟩ ⟨HK.out, hs⟩ n1 hn1 _).mono ?_
      rintro e u1 ⟨g1, k1, rfl, o1, h1⟩
      have hbel : Below w.heap.size w u1 := later (by repeat' (first | (with_reducible exact Below.refl _ _) | (with_reducible refine Below.setCell ?_ ?_ _) | (with_reducible refine Below.drewN' ?_ _) | (with_reducible refine Below.drew ?_) | (with_reducible refine Below.alloc ?_ ?_ _) | (simp; done))) h1
      have r1 := str_run (cap := k1) o1.octs
      have r2 := str_run (cap := cap) (HO.out.below hbel)
      rw [hS1] at r1
      rw [hS2] at r2
      obtain ⟨hc, hf⟩ := bcell h1
      have hcR := fun o => hc w.heap.size o (by simp; omega)
      clear hs he hn1 hS1 hS2 hS3 o1
      go_wp2_with fail
      exact bodyPost_ret (v := .tuple #[.agg #[.int .u8 (c0 : Nat), .int .u8 (c1 : Nat), .int .u16 (q : Nat), .int .u8 (c4 : Nat), .int .u8 (c5 : Nat), .int .u32 (y : Nat)], .int .i64 0]) (by simp [results, Tryz.results17, go_sem, hcR]) rfl ⟨by rw [HV.out], (by repeat' (first | (with_reducible exact hbel) | (with_reducible refine Below.setCell ?_ ?_ _) | (with_reducible refine Below.drewN' ?_ _) | (with_reducible refine Below.drew ?_) | (with_reducible refine Below.alloc ?_ ?_ _) | (simp; done) | omega))⟩
    · have HV : Hid (decVal .i64 l = .tuple #[.agg #[.int .u8 0, .int .u8 0, .int .u16 0, .int .u8 0, .int .u8 0, .int .u32 0], .int .i64 30]) := bad_val (k := .i64) (by rw [← HD.out, if_neg (fun h => he h.2.2)])
      have hst0 : (S1.toList == S2.toList) = false := by
        have := str_beq (Wire.enc_oct HK.out) HO.out.2.2.1
        rw [← hS1, ← hS2, this, decide_eq_false he]
      have hst1 : (S1.toList != S2.toList) = true := by rw [bne, hst0]; rfl
      have hst2 : ¬ S1.toList = S2.toList := by simpa using hst0
      have hst3 : ¬ S1 = S2 := fun h => hst2 (by rw [h])
      refine (refEnc_to ⟨c0, c1, q, c4, c5, y⟩ ⟨HK.out, hs⟩ n1 hn1 _).mono ?_
      rintro e u1 ⟨g1, k1, rfl, o1, h1⟩
      have hbel : Below w.heap.size w u1 := later (by repeat' (first | (with_reducible exact Below.refl _ _) | (with_reducible refine Below.setCell ?_ ?_ _) | (with_reducible refine Below.drewN' ?_ _) | (with_reducible refine Below.drew ?_) | (with_reducible refine Below.alloc ?_ ?_ _) | (simp; done))) h1
      have r1 := str_run (cap := k1) o1.octs
      have r2 := str_run (cap := cap) (HO.out.below hbel)
      rw [hS1] at r1
      rw [hS2] at r2
      obtain ⟨hc, hf⟩ := bcell h1
      have hcR := fun o => hc w.heap.size o (by simp; omega)
      clear hs he hn1 hS1 hS2 o1
      go_wp2_with fail
      exact bodyPost_ret (v := .tuple #[.agg #[.int .u8 0, .int .u8 0, .int .u16 0, .int .u8 0, .int .u8 0, .int .u32 0], .int .i64 30]) (by simp [results, Tryz.results17, go_sem, hcR]) rfl ⟨by rw [HV.out], (by repeat' (first | (with_reducible exact hbel) | (with_reducible refine Below.setCell ?_ ?_ _) | (with_reducible refine Below.drewN' ?_ _) | (with_reducible refine Below.drew ?_) | (with_reducible refine Below.alloc ?_ ?_ _) | (simp; done) | omega))⟩
set_option maxHeartbeats 1000000 in
theorem refDec_few (a : Option Addr) (len cap : Nat) (l : List Nat) (w : World) (ho : Octs w a len l) (h6 : len < 6) :
    Calls Tryz.prog 17 #[.slice a len cap] w fun e w' => e = .returned (decVal .i64 l) ∧ Below w.heap.size w w' := by
  rw [bad_val (k := .i64) (Wire.dec_length ho.2.2.1 (by have := ho.1; omega) (by have := ho.1; omega))]
  have l6 : (len : Int) < 6 := by omega
  clear ho
  go_enter Tryz.func17, Tryz.ntmps17
  go_wp2_with fail
  exact bodyPost_ret (v := .tuple #[.agg #[.int .u8 0, .int .u8 0, .int .u16 0, .int .u8 0, .int .u8 0, .int .u32 0], .int .i64 30]) (by simp [results, Tryz.results17, go_sem]) rfl ⟨rfl, (by repeat' (first | (with_reducible exact Below.refl _ _) | (with_reducible refine Below.setCell ?_ ?_ _) | (with_reducible refine Below.drewN' ?_ _) | (with_reducible refine Below.drew ?_) | (with_reducible refine Below.alloc ?_ ?_ _) | (simp; done)))⟩
theorem refDec_any (a : Option Addr) (len cap : Nat) (l : List Nat) (w : World) (ho : Octs w a len l) (hm : len ≤ 100) :
    Calls Tryz.prog 17 #[.slice a len cap] w fun e w' => e = .returned (decVal .i64 l) ∧ Below w.heap.size w w' := by
  by_cases h6 : len < 6
  · exact refDec_few a len cap l w ho h6
  · obtain ⟨b, off, rfl, _⟩ := ho.at (by omega)
    by_cases hk : l.getD 0 0 = 1
    · by_cases h12 : len < 12
      · exact refDec_A2 b off len cap l w ho (by omega) hm hk h12
      · exact refDec_B b off len cap l w ho (by omega) hm hk (by omega)
    · exact refDec_A1 b off len cap l w ho (by omega) hm hk
end Go.Proofs.YtniicgbkeifnjaaGreatDoor
namespace Go.Proofs.YtniicgbkeifnjaaGreatDoor
open Go.ChangeShapes Go.WideShapes Go.ChangeAt Go.RowKit
set_option linter.unusedVariables false
set_option maxRecDepth 100000
def Pks (w : World) (a : Option Addr) (len : Nat) (xs : List Pk) : Prop :=
  xs.length = len ∧ len ≤ 140737488351232 ∧ (len = 0 ∨ ∃ b off, a = some ⟨b, off, none⟩ ∧ ∀ j, j < len → PkAt w b (off + j * 4) (xs.getD j zpk))
theorem Pks.at {w : World} {a : Option Addr} {len : Nat} {os : List Pk} (h : Pks w a len os) {k : Nat} (hk : k < len) : ∃ b off v, a = some ⟨b, off, none⟩ ∧ PkAt w b (off + k * 4) v := by
  rcases h.2.2 with h0 | ⟨b, off, ha, hc⟩
  · omega
  · exact ⟨b, off, _, ha, hc k hk⟩
theorem array4 {α : Type} {cs : List α} (h : cs.length = 4) : ∃ c0 c1 c2 c3, cs = [c0, c1, c2, c3] := by
  match cs, h with
  | [c0, c1, c2, c3], _ => exact ⟨c0, c1, c2, c3, rfl⟩
theorem cells32 : Tryz.prog.cellsOf 23 = 1 := by kernel_rfl
theorem cellsI : Tryz.prog.cellsOf 3 = 1 := by kernel_rfl
theorem cellsPk : Tryz.prog.cellsOf 25 = 4 := by kernel_rfl
theorem padd_lit (b off j : Nat) : (⟨b, off, none⟩ : Addr).add j = ⟨b, off + j, none⟩ := by
  unfold Addr.add; split
  · rename_i h; rw [h]; rfl
  · rfl
def Us (w : World) (a : Option Addr) (len : Nat) (us : List Int) : Prop :=
  us.length = len ∧ len ≤ 140737488351232 ∧ (len = 0 ∨ ∃ b off, a = some ⟨b, off, none⟩ ∧ ∀ j, j < len → w.cell? ⟨b, off + j, none⟩ = some (.int .u32 (us.getD j 0)))
theorem Us.at {w : World} {a : Option Addr} {len : Nat} {us : List Int} (h : Us w a len us) {k : Nat} (hk : k < len) : ∃ b off, a = some ⟨b, off, none⟩ ∧ w.cell? ⟨b, off + k, none⟩ = some (.int .u32 (us.getD k 0)) := by
  rcases h.2.2 with h0 | ⟨b, off, ha, hc⟩
  · omega
  · exact ⟨b, off, ha, hc k hk⟩
theorem bytes32 : Tryz.prog.bytesOf 23 = 4 := by kernel_rfl
end Go.Proofs.YtniicgbkeifnjaaGreatDoor
