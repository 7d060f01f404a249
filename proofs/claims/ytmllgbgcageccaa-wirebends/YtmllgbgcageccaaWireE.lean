/-
  wire.readFields comes to the frame that the bytes make. Conditions: none but that the slice has as many bytes as the kind.
-/
import Derived.Test.YtmllgbgcageccaaWireD
import Derived.Deep.RegionHeld3
namespace Go.Proofs.Ytmllgbgcageccaa
open Go.ChangeShapes Go.WideShapes Go.ChangeAt Go.RowKit
set_option linter.unusedVariables false

theorem Below.drewN' {B : Nat} {a w : World} (h : Below B a w) (n : Nat) : Below B a (w.drewN n) := ⟨h.os, h.tape, h.output, h.size, h.block⟩
theorem kept {w W : World} (h : Below w.heap.size w W) {b : Nat} (hb : b < w.heap.size) {o : Nat} {v : Option Value} (hv : w.cell? ⟨b, o, none⟩ = v) : W.cell? ⟨b, o, none⟩ = v := (h.cell (p := ⟨b, o, none⟩) hb).trans hv
set_option maxHeartbeats 1000000 in
theorem read_short (b off len cap : Nat) (l : List Nat) (w : World) (ho : Octs w (some ⟨b, off, none⟩) len l) (hl : 4 ≤ len) (hlc : len ≤ cap) (hm : cap ≤ 9223372036854775807) (hm2 : len ≤ 1000) (hk : l.getD 0 0 ≠ 1) :
    Calls Try.prog 26 #[.slice (some ⟨b, off, none⟩) len cap] w fun e w' => e = .returned (fr (Wire.rd false l)) ∧ Below w.heap.size w w' := by
  have hlt : b < w.heap.size := by
    rcases ho.2.2.2 with h | ⟨b', off', e, h, _⟩
    · omega
    · cases e; exact h
  have cf : ∀ i, i < len → w.cell? ⟨b, off + i, none⟩ = some (.int .u8 (l.getD i 0 : Nat)) := by
    rcases ho.2.2.2 with h | ⟨b', off', e, h, hc⟩
    · omega
    · cases e; exact hc
  have g : ∀ i, l.getD i 0 < 256 := fun i => Oct_getD ho.2.2.1 i
  have f0 := cf 0 (by omega)
  have f1 := cf 1 (by omega)
  have f2 := cf 2 (by omega)
  have f3 := cf 3 (by omega)
  rw [Nat.add_zero] at f0
  have g0 := g 0; have g1 := g 1; have g2 := g 2; have g3 := g 3
  have HE : Hid (fr (Wire.rd false l) = .agg #[.int .u8 (l.getD 0 0 : Nat), .int .u8 (l.getD 1 0 : Nat), .int .u16 (l.getD 2 0 * 256 + l.getD 3 0 : Nat), .int .u8 0, .int .u8 0, .int .u32 0]) := rfl
  clear cf g ho
  obtain ⟨c0, hc0⟩ : ∃ c, c = l.getD 0 0 := ⟨_, rfl⟩
  obtain ⟨c1, hc1⟩ : ∃ c, c = l.getD 1 0 := ⟨_, rfl⟩
  obtain ⟨c2, hc2⟩ : ∃ c, c = l.getD 2 0 := ⟨_, rfl⟩
  obtain ⟨c3, hc3⟩ : ∃ c, c = l.getD 3 0 := ⟨_, rfl⟩
  rw [← hc0, ← hc1, ← hc2, ← hc3] at HE
  rw [← hc0] at f0 g0 hk
  rw [← hc1] at f1 g1
  rw [← hc2] at f2 g2
  rw [← hc3] at f3 g3
  clear hc0 hc1 hc2 hc3
  rw [HE.out]
  have hkb : ((c0 : Int) == 1) = false := by simp; omega
  have i2 : (2 : Int) ≤ len := by omega
  have i3 : (len : Int) ≤ cap := by omega
  clear hk
  have hd1 : ∀ (W : World) (n : Nat) (a : Addr) (v : Value), (W.drewN n).setCell a v = (W.setCell a v).drewN n := fun _ _ _ _ => rfl
  have hd2 : ∀ (W : World) (n : Nat) (o : Obj), (W.drewN n).alloc o = (W.alloc o).drewN n := fun _ _ _ => rfl
  have n0 : ¬ b = w.heap.size := by omega
  have n1 : ¬ b = w.heap.size + 1 := by omega
  have j0 : 0 < len := by omega
  have hc2 : ¬ cap = 2 := by omega
  have k1 : (1 : Int) < len := by omega
  go_enter Try.func26, Try.ntmps26
  go_wp2_with fail
  go_region_held3 (fun w' => w'.cell? ⟨b, off, none⟩ = some (.int .u8 (c0 : Nat)) ∧ w'.cell? ⟨b, off + 1, none⟩ = some (.int .u8 (c1 : Nat))) (first | go_keep | (exact ⟨kept (by repeat' (first | (with_reducible exact Below.refl _ _) | (with_reducible refine Below.setCell ?_ ?_ _) | (with_reducible refine Below.drewN' ?_ _) | (with_reducible refine Below.drew ?_) | (with_reducible refine Below.alloc ?_ ?_ _) | (simp; done))) hlt f0, kept (by repeat' (first | (with_reducible exact Below.refl _ _) | (with_reducible refine Below.setCell ?_ ?_ _) | (with_reducible refine Below.drewN' ?_ _) | (with_reducible refine Below.drew ?_) | (with_reducible refine Below.alloc ?_ ?_ _) | (simp; done))) hlt f1⟩)) (first | (go_at_call 30; refine (read16_any b (off + 2) (len - 2) _ c2 c3 (by omega) (by omega) g2 g3 _ ?_ ?_).mono ?_; (exact kept (by repeat' (first | (with_reducible exact Below.refl _ _) | (with_reducible refine Below.setCell ?_ ?_ _) | (with_reducible refine Below.drewN' ?_ _) | (with_reducible refine Below.drew ?_) | (with_reducible refine Below.alloc ?_ ?_ _) | (simp; done))) hlt f2); (exact kept (by repeat' (first | (with_reducible exact Below.refl _ _) | (with_reducible refine Below.setCell ?_ ?_ _) | (with_reducible refine Below.drewN' ?_ _) | (with_reducible refine Below.drew ?_) | (with_reducible refine Below.alloc ?_ ?_ _) | (simp; done))) hlt f3); rintro e w' ⟨rfl, n, rfl⟩))
  all_goals go_wp2_with fail
  all_goals exact bodyPost_ret (v := .agg #[.int .u8 (c0 : Nat), .int .u8 (c1 : Nat), .int .u16 (c2 * 256 + c3 : Nat), .int .u8 0, .int .u8 0, .int .u32 0]) (by simp [results, Try.results26, go_sem]) rfl ⟨rfl, (by repeat' (first | (with_reducible exact Below.refl _ _) | (with_reducible refine Below.setCell ?_ ?_ _) | (with_reducible refine Below.drewN' ?_ _) | (with_reducible refine Below.drew ?_) | (with_reducible refine Below.alloc ?_ ?_ _) | (simp; done)))⟩
set_option maxHeartbeats 1000000 in
theorem read_data (b off len cap : Nat) (l : List Nat) (w : World) (ho : Octs w (some ⟨b, off, none⟩) len l) (hl : 10 ≤ len) (hlc : len ≤ cap) (hm : cap ≤ 9223372036854775807) (hm2 : len ≤ 1000) (hk : l.getD 0 0 = 1) :
    Calls Try.prog 26 #[.slice (some ⟨b, off, none⟩) len cap] w fun e w' => e = .returned (fr (Wire.rd true l)) ∧ Below w.heap.size w w' := by
  have hlt : b < w.heap.size := by
    rcases ho.2.2.2 with h | ⟨b', off', e, h, _⟩
    · omega
    · cases e; exact h
  have cf : ∀ i, i < len → w.cell? ⟨b, off + i, none⟩ = some (.int .u8 (l.getD i 0 : Nat)) := by
    rcases ho.2.2.2 with h | ⟨b', off', e, h, hc⟩
    · omega
    · cases e; exact hc
  have g : ∀ i, l.getD i 0 < 256 := fun i => Oct_getD ho.2.2.1 i
  have f0 := cf 0 (by omega)
  have f1 := cf 1 (by omega)
  have f2 := cf 2 (by omega)
  have f3 := cf 3 (by omega)
  have f4 := cf 4 (by omega)
  have f5 := cf 5 (by omega)
  have f6 := cf 6 (by omega)
  have f7 := cf 7 (by omega)
  have f8 := cf 8 (by omega)
  have f9 := cf 9 (by omega)
  rw [Nat.add_zero] at f0
  have g0 := g 0; have g1 := g 1; have g2 := g 2; have g3 := g 3; have g4 := g 4; have g5 := g 5; have g6 := g 6; have g7 := g 7; have g8 := g 8; have g9 := g 9
  have HE : Hid (fr (Wire.rd true l) = .agg #[.int .u8 (l.getD 0 0 : Nat), .int .u8 (l.getD 1 0 : Nat), .int .u16 (l.getD 2 0 * 256 + l.getD 3 0 : Nat), .int .u8 (l.getD 4 0 : Nat), .int .u8 (l.getD 5 0 : Nat), .int .u32 (l.getD 6 0 * 16777216 + l.getD 7 0 * 65536 + l.getD 8 0 * 256 + l.getD 9 0 : Nat)]) := rfl
  clear cf g ho
  obtain ⟨c0, hc0⟩ : ∃ c, c = l.getD 0 0 := ⟨_, rfl⟩
  obtain ⟨c1, hc1⟩ : ∃ c, c = l.getD 1 0 := ⟨_, rfl⟩
  obtain ⟨c2, hc2⟩ : ∃ c, c = l.getD 2 0 := ⟨_, rfl⟩
  obtain ⟨c3, hc3⟩ : ∃ c, c = l.getD 3 0 := ⟨_, rfl⟩
  obtain ⟨c4, hc4⟩ : ∃ c, c = l.getD 4 0 := ⟨_, rfl⟩
  obtain ⟨c5, hc5⟩ : ∃ c, c = l.getD 5 0 := ⟨_, rfl⟩
  obtain ⟨c6, hc6⟩ : ∃ c, c = l.getD 6 0 := ⟨_, rfl⟩
  obtain ⟨c7, hc7⟩ : ∃ c, c = l.getD 7 0 := ⟨_, rfl⟩
  obtain ⟨c8, hc8⟩ : ∃ c, c = l.getD 8 0 := ⟨_, rfl⟩
  obtain ⟨c9, hc9⟩ : ∃ c, c = l.getD 9 0 := ⟨_, rfl⟩
  rw [← hc0, ← hc1, ← hc2, ← hc3, ← hc4, ← hc5, ← hc6, ← hc7, ← hc8, ← hc9] at HE
  rw [← hc0] at f0 g0 hk
  rw [← hc1] at f1 g1
  rw [← hc2] at f2 g2
  rw [← hc3] at f3 g3
  rw [← hc4] at f4 g4
  rw [← hc5] at f5 g5
  rw [← hc6] at f6 g6
  rw [← hc7] at f7 g7
  rw [← hc8] at f8 g8
  rw [← hc9] at f9 g9
  clear hc0 hc1 hc2 hc3 hc4 hc5 hc6 hc7 hc8 hc9
  rw [show c6 * 16777216 + c7 * 65536 + c8 * 256 + c9 = (c6 * 256 + c7) * 65536 + (c8 * 256 + c9) by omega] at HE
  rw [HE.out]
  have hkb : ((c0 : Int) == 1) = true := by rw [hk]; rfl
  have i2 : (2 : Int) ≤ len := by omega
  have i3 : (len : Int) ≤ cap := by omega
  have i6 : (6 : Int) ≤ len := by omega
  have hc6 : ¬ cap = 6 := by omega
  have k4 : (4 : Int) < len := by omega
  have k5 : (5 : Int) < len := by omega
  clear hk
  have hd1 : ∀ (W : World) (n : Nat) (a : Addr) (v : Value), (W.drewN n).setCell a v = (W.setCell a v).drewN n := fun _ _ _ _ => rfl
  have hd2 : ∀ (W : World) (n : Nat) (o : Obj), (W.drewN n).alloc o = (W.alloc o).drewN n := fun _ _ _ => rfl
  have n0 : ¬ b = w.heap.size := by omega
  have n1 : ¬ b = w.heap.size + 1 := by omega
  have j0 : 0 < len := by omega
  have hc2 : ¬ cap = 2 := by omega
  have k1 : (1 : Int) < len := by omega
  go_enter Try.func26, Try.ntmps26
  go_wp2_with fail
  go_region_held3 (fun w' => w'.cell? ⟨b, off, none⟩ = some (.int .u8 (c0 : Nat)) ∧ w'.cell? ⟨b, off + 1, none⟩ = some (.int .u8 (c1 : Nat))) (first | go_keep | (exact ⟨kept (by repeat' (first | (with_reducible exact Below.refl _ _) | (with_reducible refine Below.setCell ?_ ?_ _) | (with_reducible refine Below.drewN' ?_ _) | (with_reducible refine Below.drew ?_) | (with_reducible refine Below.alloc ?_ ?_ _) | (simp; done))) hlt f0, kept (by repeat' (first | (with_reducible exact Below.refl _ _) | (with_reducible refine Below.setCell ?_ ?_ _) | (with_reducible refine Below.drewN' ?_ _) | (with_reducible refine Below.drew ?_) | (with_reducible refine Below.alloc ?_ ?_ _) | (simp; done))) hlt f1⟩)) (first | (go_at_call 30; refine (read16_any b (off + 2) (len - 2) _ c2 c3 (by omega) (by omega) g2 g3 _ ?_ ?_).mono ?_; (exact kept (by repeat' (first | (with_reducible exact Below.refl _ _) | (with_reducible refine Below.setCell ?_ ?_ _) | (with_reducible refine Below.drewN' ?_ _) | (with_reducible refine Below.drew ?_) | (with_reducible refine Below.alloc ?_ ?_ _) | (simp; done))) hlt f2); (exact kept (by repeat' (first | (with_reducible exact Below.refl _ _) | (with_reducible refine Below.setCell ?_ ?_ _) | (with_reducible refine Below.drewN' ?_ _) | (with_reducible refine Below.drew ?_) | (with_reducible refine Below.alloc ?_ ?_ _) | (simp; done))) hlt f3); rintro e w' ⟨rfl, n, rfl⟩))
  all_goals go_wp2_with fail
  all_goals go_region_held3 (fun w' => w'.cell? ⟨b, off + 4, none⟩ = some (.int .u8 (c4 : Nat)) ∧ w'.cell? ⟨b, off + 5, none⟩ = some (.int .u8 (c5 : Nat))) (first | (exact ⟨kept (by repeat' (first | (with_reducible exact Below.refl _ _) | (with_reducible refine Below.setCell ?_ ?_ _) | (with_reducible refine Below.drewN' ?_ _) | (with_reducible refine Below.drew ?_) | (with_reducible refine Below.alloc ?_ ?_ _) | (simp; done))) hlt f4, kept (by repeat' (first | (with_reducible exact Below.refl _ _) | (with_reducible refine Below.setCell ?_ ?_ _) | (with_reducible refine Below.drewN' ?_ _) | (with_reducible refine Below.drew ?_) | (with_reducible refine Below.alloc ?_ ?_ _) | (simp; done))) hlt f5⟩)) (fail)
  all_goals
    go_wp2_with fail
    refine (read32_any b (off + 6) (len - 6) (cap - 6) c6 c7 c8 c9 (by omega) (by omega) (by omega) (by omega) g6 g7 g8 g9 _ ?_ ?_ ?_ ?_).mono ?_
    · exact kept (by repeat' (first | (with_reducible exact Below.refl _ _) | (with_reducible refine Below.setCell ?_ ?_ _) | (with_reducible refine Below.drewN' ?_ _) | (with_reducible refine Below.drew ?_) | (with_reducible refine Below.alloc ?_ ?_ _) | (simp; done))) hlt f6
    · exact kept (by repeat' (first | (with_reducible exact Below.refl _ _) | (with_reducible refine Below.setCell ?_ ?_ _) | (with_reducible refine Below.drewN' ?_ _) | (with_reducible refine Below.drew ?_) | (with_reducible refine Below.alloc ?_ ?_ _) | (simp; done))) hlt f7
    · exact kept (by repeat' (first | (with_reducible exact Below.refl _ _) | (with_reducible refine Below.setCell ?_ ?_ _) | (with_reducible refine Below.drewN' ?_ _) | (with_reducible refine Below.drew ?_) | (with_reducible refine Below.alloc ?_ ?_ _) | (simp; done))) hlt f8
    · exact kept (by repeat' (first | (with_reducible exact Below.refl _ _) | (with_reducible refine Below.setCell ?_ ?_ _) | (with_reducible refine Below.drewN' ?_ _) | (with_reducible refine Below.drew ?_) | (with_reducible refine Below.alloc ?_ ?_ _) | (simp; done))) hlt f9
    rintro e w' ⟨rfl, n2, rfl⟩
    go_wp2_with fail
    exact bodyPost_ret (v := .agg #[.int .u8 (c0 : Nat), .int .u8 (c1 : Nat), .int .u16 (c2 * 256 + c3 : Nat), .int .u8 (c4 : Nat), .int .u8 (c5 : Nat), .int .u32 ((c6 * 256 + c7) * 65536 + (c8 * 256 + c9) : Nat)]) (by simp [results, Try.results26, go_sem]) rfl ⟨rfl, (by repeat' (first | (with_reducible exact Below.refl _ _) | (with_reducible refine Below.setCell ?_ ?_ _) | (with_reducible refine Below.drewN' ?_ _) | (with_reducible refine Below.drew ?_) | (with_reducible refine Below.alloc ?_ ?_ _) | (simp; done)))⟩
end Go.Proofs.Ytmllgbgcageccaa
