/-
  For every five numbers, the law WireRefuses of package shunterlaw03 returns true and leaves its arguments as they were. Conditions: none.
-/
import Derived.Test.YtmllgbgcageccaaWireK
import Derived.Test.YtmllgbgcageccaaRows
import Derived.WalkKit
import Derived.ProofKit
import Derived.OpenShut
import Derived.ShutString
import Derived.ChangeOld
import Derived.Below
namespace Go.Proofs.Ytmllgbgcageccaa.wireRefuses
open Go.ChangeShapes Go.WideShapes Go.ChangeAt Go.RowKit
set_option linter.unusedVariables false      -- a walk need not use every 'w<i>' (that an integer argument fits its kind)

theorem own : ownKnob Try.prog.godebug = none := by kernel_rfl

set_option maxHeartbeats 1000000 in
theorem walk (a0 : Int) (a1 : Int) (a2 : Int) (a3 : Int) (a4 : Int) (w0 : (Lit.int .u8 a0).wf = true) (w1 : (Lit.int .u8 a1).wf = true) (w2 : (Lit.int .u16 a2).wf = true) (w3 : (Lit.int .u8 a3).wf = true) (w4 : (Lit.int .u8 a4).wf = true) (w : World) :
    Calls Try.prog 4 #[.int .u8 a0, .int .u8 a1, .int .u16 a2, .int .u8 a3, .int .u8 a4] w fun e w' => e = .returned (.bool true) ∧ Below w.heap.size w w' := by
  have b0 := bounds_u8 w0
  have b1 := bounds_u8 w1
  have b2 := bounds_u16 w2
  have b3 := bounds_u8 w3
  have b4 := bounds_u8 w4
  obtain ⟨k, rfl⟩ := Int.eq_ofNat_of_zero_le b0.1
  obtain ⟨l, rfl⟩ := Int.eq_ofNat_of_zero_le b1.1
  obtain ⟨s, rfl⟩ := Int.eq_ofNat_of_zero_le b2.1
  obtain ⟨a, rfl⟩ := Int.eq_ofNat_of_zero_le b3.1
  obtain ⟨b, rfl⟩ := Int.eq_ofNat_of_zero_le b4.1
  have hk : k < 256 := by omega
  have hl : l < 256 := by omega
  have hs : s < 65536 := by omega
  have ha : a < 256 := by omega
  have hb : b < 256 := by omega
  clear w0 w1 w2 w3 w4 b0 b1 b2 b3 b4
  have HK : Hid ((⟨k, l, s, a, b, 0⟩ : Wire.Fr).ok) := by unfold Wire.Fr.ok; show _ ∧ _; simp only; omega
  have HB : Hid (∀ w : World, Box (w.alloc (.cells #[.int .u8 k, .int .u8 l, .int .u16 s, .int .u8 a, .int .u8 b, .int .u32 0] 25)) w.heap.size ⟨k, l, s, a, b, 0⟩) := fun w => Box.made w ⟨k, l, s, a, b, 0⟩
  have hcs : (3 ≤ l) ∨ (l < 3 ∧ k = 1 ∧ 6 ≤ a) ∨ (l < 3 ∧ k = 1 ∧ a < 6 ∧ 6 ≤ b) ∨ (l < 3 ∧ k = 1 ∧ a < 6 ∧ b < 6 ∧ a = b) ∨ (l < 3 ∧ k = 1 ∧ a < 6 ∧ b < 6 ∧ a ≠ b) ∨ (l < 3 ∧ k = 2 ∧ a ≠ 0) ∨ (l < 3 ∧ k = 2 ∧ a = 0 ∧ b ≠ 0) ∨ (l < 3 ∧ k = 2 ∧ a = 0 ∧ b = 0) ∨ (l < 3 ∧ k = 3 ∧ a ≠ 0) ∨ (l < 3 ∧ k = 3 ∧ a = 0 ∧ b ≠ 0) ∨ (l < 3 ∧ k = 3 ∧ a = 0 ∧ b = 0) ∨ (l < 3 ∧ k ≠ 1 ∧ k ≠ 2 ∧ k ≠ 3) := by omega
  rcases hcs with hc | hc | hc | hc | hc | hc | hc | hc | hc | hc | hc | hc
  · have HS : Hid ((⟨k, l, s, a, b, 0⟩ : Wire.Fr).sound = false) := by
      show _ = _
      rw [Bool.eq_false_iff, ne_eq, Wire.Fr.sound_iff]; simp only; omega
    have hl3 : (3 : Int) ≤ l := by omega
    clear hc
    go_enter Try.func4, Try.ntmps4
    go_wp2_with fail
    refine (enc_bad ⟨k, l, s, a, b, 0⟩ HK.out HS.out _).mono ?_
    rintro e u1 ⟨rfl, h1⟩
    go_wp2_with fail
    refine (known_any _).mono ?_
    rintro e u2 ⟨rfl, h2⟩
    obtain ⟨f0, f1, f2, f3, f4, f5⟩ := ((HB.out w).below h1).below h2
    simp only at f0 f1 f2 f3 f4 f5
    go_wp2_with fail
    refine (sound_is ⟨k, l, s, a, b, 0⟩ HK.out false HS.out _).mono ?_
    rintro e u3 ⟨rfl, h3⟩
    go_wp2_with fail
    go_ret
    exact ⟨rfl, later (later (later (fresh _ _) h1) h2) h3⟩
  · have HS : Hid ((⟨k, l, s, a, b, 0⟩ : Wire.Fr).sound = false) := by
      show _ = _
      rw [Bool.eq_false_iff, ne_eq, Wire.Fr.sound_iff]; simp only; omega
    have hl3 : (l : Int) < 3 := by omega
    have k1 : ((k : Int) == 1) = true := by simp; omega
    have k2 : ((k : Int) == 2) = false := by simp; omega
    have k3 : ((k : Int) == 3) = false := by simp; omega
    have ha6 : (6 : Int) ≤ a := by omega
    clear hc
    go_enter Try.func4, Try.ntmps4
    go_wp2_with fail
    refine (enc_bad ⟨k, l, s, a, b, 0⟩ HK.out HS.out _).mono ?_
    rintro e u1 ⟨rfl, h1⟩
    go_wp2_with fail
    refine (known_any _).mono ?_
    rintro e u2 ⟨rfl, h2⟩
    obtain ⟨f0, f1, f2, f3, f4, f5⟩ := ((HB.out w).below h1).below h2
    simp only at f0 f1 f2 f3 f4 f5
    go_wp2_with fail
    refine (sound_is ⟨k, l, s, a, b, 0⟩ HK.out false HS.out _).mono ?_
    rintro e u3 ⟨rfl, h3⟩
    go_wp2_with fail
    go_ret
    exact ⟨rfl, later (later (later (fresh _ _) h1) h2) h3⟩
  · have HS : Hid ((⟨k, l, s, a, b, 0⟩ : Wire.Fr).sound = false) := by
      show _ = _
      rw [Bool.eq_false_iff, ne_eq, Wire.Fr.sound_iff]; simp only; omega
    have hl3 : (l : Int) < 3 := by omega
    have k1 : ((k : Int) == 1) = true := by simp; omega
    have k2 : ((k : Int) == 2) = false := by simp; omega
    have k3 : ((k : Int) == 3) = false := by simp; omega
    have ha6 : (a : Int) < 6 := by omega
    have hb6 : (6 : Int) ≤ b := by omega
    clear hc
    go_enter Try.func4, Try.ntmps4
    go_wp2_with fail
    refine (enc_bad ⟨k, l, s, a, b, 0⟩ HK.out HS.out _).mono ?_
    rintro e u1 ⟨rfl, h1⟩
    go_wp2_with fail
    refine (known_any _).mono ?_
    rintro e u2 ⟨rfl, h2⟩
    obtain ⟨f0, f1, f2, f3, f4, f5⟩ := ((HB.out w).below h1).below h2
    simp only at f0 f1 f2 f3 f4 f5
    go_wp2_with fail
    refine (sound_is ⟨k, l, s, a, b, 0⟩ HK.out false HS.out _).mono ?_
    rintro e u3 ⟨rfl, h3⟩
    go_wp2_with fail
    go_ret
    exact ⟨rfl, later (later (later (fresh _ _) h1) h2) h3⟩
  · have HS : Hid ((⟨k, l, s, a, b, 0⟩ : Wire.Fr).sound = false) := by
      show _ = _
      rw [Bool.eq_false_iff, ne_eq, Wire.Fr.sound_iff]; simp only; omega
    have hl3 : (l : Int) < 3 := by omega
    have k1 : ((k : Int) == 1) = true := by simp; omega
    have k2 : ((k : Int) == 2) = false := by simp; omega
    have k3 : ((k : Int) == 3) = false := by simp; omega
    have ha6 : (a : Int) < 6 := by omega
    have hb6 : (b : Int) < 6 := by omega
    have hab : ((a : Int) != (b : Int)) = false := by simp; omega
    clear hc
    go_enter Try.func4, Try.ntmps4
    go_wp2_with fail
    refine (enc_bad ⟨k, l, s, a, b, 0⟩ HK.out HS.out _).mono ?_
    rintro e u1 ⟨rfl, h1⟩
    go_wp2_with fail
    refine (known_any _).mono ?_
    rintro e u2 ⟨rfl, h2⟩
    obtain ⟨f0, f1, f2, f3, f4, f5⟩ := ((HB.out w).below h1).below h2
    simp only at f0 f1 f2 f3 f4 f5
    go_wp2_with fail
    refine (sound_is ⟨k, l, s, a, b, 0⟩ HK.out false HS.out _).mono ?_
    rintro e u3 ⟨rfl, h3⟩
    go_wp2_with fail
    go_ret
    exact ⟨rfl, later (later (later (fresh _ _) h1) h2) h3⟩
  · have HS : Hid ((⟨k, l, s, a, b, 0⟩ : Wire.Fr).sound = true) := by
      show _ = _
      rw [Wire.Fr.sound_iff]; first | (simp only; omega) | (exact ⟨by show l < 3; omega, .inr ⟨by show k = 2 ∨ k = 3; omega, by show a = 0; omega, by show b = 0; omega, rfl⟩⟩)
    have hl3 : (l : Int) < 3 := by omega
    have k1 : ((k : Int) == 1) = true := by simp; omega
    have k2 : ((k : Int) == 2) = false := by simp; omega
    have k3 : ((k : Int) == 3) = false := by simp; omega
    have ha6 : (a : Int) < 6 := by omega
    have hb6 : (b : Int) < 6 := by omega
    have hab : ((a : Int) != (b : Int)) = true := by simp; omega
    clear hc
    go_enter Try.func4, Try.ntmps4
    go_wp2_with fail
    refine (enc_is ⟨k, l, s, a, b, 0⟩ ⟨HK.out, HS.out⟩ _ rfl _).mono ?_
    rintro e u1 ⟨g, c, rfl, o1, h1⟩
    go_wp2_with fail
    refine (known_any _).mono ?_
    rintro e u2 ⟨rfl, h2⟩
    obtain ⟨f0, f1, f2, f3, f4, f5⟩ := ((HB.out w).below h1).below h2
    simp only at f0 f1 f2 f3 f4 f5
    go_wp2_with fail
    refine (sound_is ⟨k, l, s, a, b, 0⟩ HK.out true HS.out _).mono ?_
    rintro e u3 ⟨rfl, h3⟩
    go_wp2_with fail
    go_ret
    exact ⟨rfl, later (later (later (fresh _ _) h1) h2) h3⟩
  · have HS : Hid ((⟨k, l, s, a, b, 0⟩ : Wire.Fr).sound = false) := by
      show _ = _
      rw [Bool.eq_false_iff, ne_eq, Wire.Fr.sound_iff]; simp only; omega
    have hl3 : (l : Int) < 3 := by omega
    have k1 : ((k : Int) == 1) = false := by simp; omega
    have k2 : ((k : Int) == 2) = true := by simp; omega
    have k3 : ((k : Int) == 3) = false := by simp; omega
    have ha0 : ((a : Int) == 0) = false := by simp; omega
    clear hc
    go_enter Try.func4, Try.ntmps4
    go_wp2_with fail
    refine (enc_bad ⟨k, l, s, a, b, 0⟩ HK.out HS.out _).mono ?_
    rintro e u1 ⟨rfl, h1⟩
    go_wp2_with fail
    refine (known_any _).mono ?_
    rintro e u2 ⟨rfl, h2⟩
    obtain ⟨f0, f1, f2, f3, f4, f5⟩ := ((HB.out w).below h1).below h2
    simp only at f0 f1 f2 f3 f4 f5
    go_wp2_with fail
    refine (sound_is ⟨k, l, s, a, b, 0⟩ HK.out false HS.out _).mono ?_
    rintro e u3 ⟨rfl, h3⟩
    go_wp2_with fail
    go_ret
    exact ⟨rfl, later (later (later (fresh _ _) h1) h2) h3⟩
  · have HS : Hid ((⟨k, l, s, a, b, 0⟩ : Wire.Fr).sound = false) := by
      show _ = _
      rw [Bool.eq_false_iff, ne_eq, Wire.Fr.sound_iff]; simp only; omega
    have hl3 : (l : Int) < 3 := by omega
    have k1 : ((k : Int) == 1) = false := by simp; omega
    have k2 : ((k : Int) == 2) = true := by simp; omega
    have k3 : ((k : Int) == 3) = false := by simp; omega
    have ha0 : ((a : Int) == 0) = true := by simp; omega
    have hb0 : ((b : Int) == 0) = false := by simp; omega
    clear hc
    go_enter Try.func4, Try.ntmps4
    go_wp2_with fail
    refine (enc_bad ⟨k, l, s, a, b, 0⟩ HK.out HS.out _).mono ?_
    rintro e u1 ⟨rfl, h1⟩
    go_wp2_with fail
    refine (known_any _).mono ?_
    rintro e u2 ⟨rfl, h2⟩
    obtain ⟨f0, f1, f2, f3, f4, f5⟩ := ((HB.out w).below h1).below h2
    simp only at f0 f1 f2 f3 f4 f5
    go_wp2_with fail
    refine (sound_is ⟨k, l, s, a, b, 0⟩ HK.out false HS.out _).mono ?_
    rintro e u3 ⟨rfl, h3⟩
    go_wp2_with fail
    go_ret
    exact ⟨rfl, later (later (later (fresh _ _) h1) h2) h3⟩
  · have HS : Hid ((⟨k, l, s, a, b, 0⟩ : Wire.Fr).sound = true) := by
      show _ = _
      rw [Wire.Fr.sound_iff]; first | (simp only; omega) | (exact ⟨by show l < 3; omega, .inr ⟨by show k = 2 ∨ k = 3; omega, by show a = 0; omega, by show b = 0; omega, rfl⟩⟩)
    have hl3 : (l : Int) < 3 := by omega
    have k1 : ((k : Int) == 1) = false := by simp; omega
    have k2 : ((k : Int) == 2) = true := by simp; omega
    have k3 : ((k : Int) == 3) = false := by simp; omega
    have ha0 : ((a : Int) == 0) = true := by simp; omega
    have hb0 : ((b : Int) == 0) = true := by simp; omega
    clear hc
    go_enter Try.func4, Try.ntmps4
    go_wp2_with fail
    refine (enc_is ⟨k, l, s, a, b, 0⟩ ⟨HK.out, HS.out⟩ _ rfl _).mono ?_
    rintro e u1 ⟨g, c, rfl, o1, h1⟩
    go_wp2_with fail
    refine (known_any _).mono ?_
    rintro e u2 ⟨rfl, h2⟩
    obtain ⟨f0, f1, f2, f3, f4, f5⟩ := ((HB.out w).below h1).below h2
    simp only at f0 f1 f2 f3 f4 f5
    go_wp2_with fail
    refine (sound_is ⟨k, l, s, a, b, 0⟩ HK.out true HS.out _).mono ?_
    rintro e u3 ⟨rfl, h3⟩
    go_wp2_with fail
    go_ret
    exact ⟨rfl, later (later (later (fresh _ _) h1) h2) h3⟩
  · have HS : Hid ((⟨k, l, s, a, b, 0⟩ : Wire.Fr).sound = false) := by
      show _ = _
      rw [Bool.eq_false_iff, ne_eq, Wire.Fr.sound_iff]; simp only; omega
    have hl3 : (l : Int) < 3 := by omega
    have k1 : ((k : Int) == 1) = false := by simp; omega
    have k2 : ((k : Int) == 2) = false := by simp; omega
    have k3 : ((k : Int) == 3) = true := by simp; omega
    have ha0 : ((a : Int) == 0) = false := by simp; omega
    clear hc
    go_enter Try.func4, Try.ntmps4
    go_wp2_with fail
    refine (enc_bad ⟨k, l, s, a, b, 0⟩ HK.out HS.out _).mono ?_
    rintro e u1 ⟨rfl, h1⟩
    go_wp2_with fail
    refine (known_any _).mono ?_
    rintro e u2 ⟨rfl, h2⟩
    obtain ⟨f0, f1, f2, f3, f4, f5⟩ := ((HB.out w).below h1).below h2
    simp only at f0 f1 f2 f3 f4 f5
    go_wp2_with fail
    refine (sound_is ⟨k, l, s, a, b, 0⟩ HK.out false HS.out _).mono ?_
    rintro e u3 ⟨rfl, h3⟩
    go_wp2_with fail
    go_ret
    exact ⟨rfl, later (later (later (fresh _ _) h1) h2) h3⟩
  · have HS : Hid ((⟨k, l, s, a, b, 0⟩ : Wire.Fr).sound = false) := by
      show _ = _
      rw [Bool.eq_false_iff, ne_eq, Wire.Fr.sound_iff]; simp only; omega
    have hl3 : (l : Int) < 3 := by omega
    have k1 : ((k : Int) == 1) = false := by simp; omega
    have k2 : ((k : Int) == 2) = false := by simp; omega
    have k3 : ((k : Int) == 3) = true := by simp; omega
    have ha0 : ((a : Int) == 0) = true := by simp; omega
    have hb0 : ((b : Int) == 0) = false := by simp; omega
    clear hc
    go_enter Try.func4, Try.ntmps4
    go_wp2_with fail
    refine (enc_bad ⟨k, l, s, a, b, 0⟩ HK.out HS.out _).mono ?_
    rintro e u1 ⟨rfl, h1⟩
    go_wp2_with fail
    refine (known_any _).mono ?_
    rintro e u2 ⟨rfl, h2⟩
    obtain ⟨f0, f1, f2, f3, f4, f5⟩ := ((HB.out w).below h1).below h2
    simp only at f0 f1 f2 f3 f4 f5
    go_wp2_with fail
    refine (sound_is ⟨k, l, s, a, b, 0⟩ HK.out false HS.out _).mono ?_
    rintro e u3 ⟨rfl, h3⟩
    go_wp2_with fail
    go_ret
    exact ⟨rfl, later (later (later (fresh _ _) h1) h2) h3⟩
  · have HS : Hid ((⟨k, l, s, a, b, 0⟩ : Wire.Fr).sound = true) := by
      show _ = _
      rw [Wire.Fr.sound_iff]; first | (simp only; omega) | (exact ⟨by show l < 3; omega, .inr ⟨by show k = 2 ∨ k = 3; omega, by show a = 0; omega, by show b = 0; omega, rfl⟩⟩)
    have hl3 : (l : Int) < 3 := by omega
    have k1 : ((k : Int) == 1) = false := by simp; omega
    have k2 : ((k : Int) == 2) = false := by simp; omega
    have k3 : ((k : Int) == 3) = true := by simp; omega
    have ha0 : ((a : Int) == 0) = true := by simp; omega
    have hb0 : ((b : Int) == 0) = true := by simp; omega
    clear hc
    go_enter Try.func4, Try.ntmps4
    go_wp2_with fail
    refine (enc_is ⟨k, l, s, a, b, 0⟩ ⟨HK.out, HS.out⟩ _ rfl _).mono ?_
    rintro e u1 ⟨g, c, rfl, o1, h1⟩
    go_wp2_with fail
    refine (known_any _).mono ?_
    rintro e u2 ⟨rfl, h2⟩
    obtain ⟨f0, f1, f2, f3, f4, f5⟩ := ((HB.out w).below h1).below h2
    simp only at f0 f1 f2 f3 f4 f5
    go_wp2_with fail
    refine (sound_is ⟨k, l, s, a, b, 0⟩ HK.out true HS.out _).mono ?_
    rintro e u3 ⟨rfl, h3⟩
    go_wp2_with fail
    go_ret
    exact ⟨rfl, later (later (later (fresh _ _) h1) h2) h3⟩
  · have HS : Hid ((⟨k, l, s, a, b, 0⟩ : Wire.Fr).sound = false) := by
      show _ = _
      rw [Bool.eq_false_iff, ne_eq, Wire.Fr.sound_iff]; simp only; omega
    have hl3 : (l : Int) < 3 := by omega
    have k1 : ((k : Int) == 1) = false := by simp; omega
    have k2 : ((k : Int) == 2) = false := by simp; omega
    have k3 : ((k : Int) == 3) = false := by simp; omega
    clear hc
    go_enter Try.func4, Try.ntmps4
    go_wp2_with fail
    refine (enc_bad ⟨k, l, s, a, b, 0⟩ HK.out HS.out _).mono ?_
    rintro e u1 ⟨rfl, h1⟩
    go_wp2_with fail
    refine (known_any _).mono ?_
    rintro e u2 ⟨rfl, h2⟩
    obtain ⟨f0, f1, f2, f3, f4, f5⟩ := ((HB.out w).below h1).below h2
    simp only at f0 f1 f2 f3 f4 f5
    go_wp2_with fail
    refine (sound_is ⟨k, l, s, a, b, 0⟩ HK.out false HS.out _).mono ?_
    rintro e u3 ⟨rfl, h3⟩
    go_wp2_with fail
    go_ret
    exact ⟨rfl, later (later (later (fresh _ _) h1) h2) h3⟩

set_option maxRecDepth 100000 in
theorem lifted (os : Os) (started : os.Started) (H : Type) (enc : TypeId × Value → H) :
    ReturnsInHanded {} Try.checked os 4 .any (Rows.wireRefusesSpec.pre6 enc Try.prog Try.f4 Rows.wireRefusesRow.domain false) (Rows.wireRefusesSpec.post enc Try.prog Try.f4 false true false false) := by
  refine returnsInHanded_of_change (C := Try.checked) own started (by kernel_rfl) Try.func4
    (ChangeSpec.witness6 (enc := enc) (C := Try.checked) false ⟨#[], #[.int .u8 0, .int .u8 0, .int .u16 0, .int .u8 0, .int .u8 0], []⟩ 8 (by kernel_rfl) (by kernel_rfl) (by kernel_rfl) (by kernel_rfl)) ?_
  intro W base args ds gs before hval0 hW hcnd _
  have hval : ∀ (j : Nat) t v, Try.f4.params[j]? = some t → args[j]? = some v → Value.okWide Try.prog W .any base t v := hval0
  have hW' := hW
  obtain ⟨p, q, hA0, hV, rfl, hfz, hnd⟩ := hW
  have hA : DataW.TrodAll enc Try.prog W 0 (fun _ => true) true Try.f4.params.toList args.toList ds p := hA0
  rw [Try.params4] at hA hval
  obtain ⟨v0, vs0, d0, ds0, p0, q0, hargs, rfl, rfl, h0, r0⟩ := trodAll_cons hA
  obtain ⟨v1, vs1, d1, ds1, p1, q1, rfl, rfl, rfl, h1, r1⟩ := trodAll_cons r0
  obtain ⟨v2, vs2, d2, ds2, p2, q2, rfl, rfl, rfl, h2, r2⟩ := trodAll_cons r1
  obtain ⟨v3, vs3, d3, ds3, p3, q3, rfl, rfl, rfl, h3, r3⟩ := trodAll_cons r2
  obtain ⟨v4, vs4, d4, ds4, p4, q4, rfl, rfl, rfl, h4, r4⟩ := trodAll_cons r3
  obtain ⟨rfl, rfl, rfl⟩ := trodAll_nil r4
  obtain rfl : args = #[v0, v1, v2, v3, v4] := by cases args; simp_all
  obtain ⟨rfl, rfl⟩ := trodVars_none hV
  obtain ⟨a0, rfl, rfl, rfl, w0⟩ := open_int Try.underlying5 (hval 0 5 v0 rfl rfl) h0
  obtain ⟨a1, rfl, rfl, rfl, w1⟩ := open_int Try.underlying5 (hval 1 5 v1 rfl rfl) h1
  obtain ⟨a2, rfl, rfl, rfl, w2⟩ := open_int Try.underlying22 (hval 2 22 v2 rfl rfl) h2
  obtain ⟨a3, rfl, rfl, rfl, w3⟩ := open_int Try.underlying5 (hval 3 5 v3 rfl rfl) h3
  obtain ⟨a4, rfl, rfl, rfl, w4⟩ := open_int Try.underlying5 (hval 4 5 v4 rfl rfl) h4
  clear hA0 hval0
  refine (walk a0 a1 a2 a3 a4 w0 w1 w2 w3 w4 W).mono fun e W' ⟨he, bel⟩ => ?_
  subst he
  exact ⟨_, rfl, _, _, _, [], _, [], hW', trodAll_mk1 (shut_bool Try.underlying4 _), (trodAll_cons_mk (shut_int Try.underlying5 w0) (trodAll_cons_mk (shut_int Try.underlying5 w1) (trodAll_cons_mk (shut_int Try.underlying22 w2) (trodAll_cons_mk (shut_int Try.underlying5 w3) (trodAll_cons_mk (shut_int Try.underlying5 w4) trodAll_mk0))))), rfl, bel.frame _, fun h => by cases h⟩

theorem over : Rows.wireRefusesRow.holds Try.pinned (OpenSpec.ofChange Rows.wireRefusesSpec) :=
  OpenClaim.holds_of_wide 4 Try.f4 rfl rfl rfl rfl rfl rfl rfl ⟨rfl, rfl, rfl, rfl, rfl⟩ rfl rfl rfl rfl rfl (by kernel_rfl) Try.func4 (by kernel_rfl)
    (of_decide_eq_true (by kernel_rfl)) (by unfold Func.isWrapper; first | (rw [if_pos (by decide +kernel)]; kernel_rfl) | (rw [if_neg (by decide +kernel)]; exact ⟨rfl, rfl⟩))
    (fun os started H enc _ => lifted os started H enc)

theorem proved : Rows.WireRefusesSaid :=
  over
#print axioms proved
end Go.Proofs.Ytmllgbgcageccaa.wireRefuses
