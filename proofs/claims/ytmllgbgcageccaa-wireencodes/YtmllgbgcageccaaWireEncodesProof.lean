/-
  For every frame, the law WireEncodes of package shunterlaw03 returns true and leaves its argument as it was. Conditions: none.
-/
import Derived.Test.YtmllgbgcageccaaWireK
import Derived.Test.YtmllgbgcageccaaWireH
import Derived.Test.YtmllgbgcageccaaSince
import Derived.Test.YtmllgbgcageccaaFrameArg
import Derived.ShutString
import Derived.ChangeOld
import Derived.Below
namespace Go.Proofs.Ytmllgbgcageccaa.wireEncodes
open Go.ChangeShapes Go.WideShapes Go.ChangeAt Go.RowKit
set_option linter.unusedVariables false

theorem own : ownKnob Try.prog.godebug = none := by kernel_rfl

theorem refEnc_is (f : Wire.Fr) (hf : f.ok ∧ f.sound = true) (n : Nat) (hn : f.enc.length = n) (w : World) :
    Calls Try.prog 17 #[fr f] w fun e w' => ∃ g cap, e = .returned (.tuple #[.slice (some ⟨g, 0, none⟩) n cap, .int .i64 0]) ∧ Own w' w.heap.size (some ⟨g, 0, none⟩) n cap f.enc ∧ Below w.heap.size w w' := by
  subst hn; exact refEnc_good f hf.1 hf.2 w

set_option maxHeartbeats 2000000 in
theorem walk (a0 a1 a2 a3 a4 a5 : Int) (w0 : (Lit.int .u8 a0).wf = true) (w1 : (Lit.int .u8 a1).wf = true) (w2 : (Lit.int .u16 a2).wf = true) (w3 : (Lit.int .u8 a3).wf = true) (w4 : (Lit.int .u8 a4).wf = true) (w5 : (Lit.int .u32 a5).wf = true) (w : World) :
    Calls Try.prog 6 #[.agg #[.int .u8 a0, .int .u8 a1, .int .u16 a2, .int .u8 a3, .int .u8 a4, .int .u32 a5]] w fun e w' => e = .returned (.bool true) ∧ Below w.heap.size w w' := by
  have b0 := bounds_u8 w0
  have b1 := bounds_u8 w1
  have b2 := bounds_u16 w2
  have b3 := bounds_u8 w3
  have b4 := bounds_u8 w4
  have b5 := bounds_u32 w5
  obtain ⟨k, rfl⟩ := Int.eq_ofNat_of_zero_le b0.1
  obtain ⟨l, rfl⟩ := Int.eq_ofNat_of_zero_le b1.1
  obtain ⟨s, rfl⟩ := Int.eq_ofNat_of_zero_le b2.1
  obtain ⟨a, rfl⟩ := Int.eq_ofNat_of_zero_le b3.1
  obtain ⟨b, rfl⟩ := Int.eq_ofNat_of_zero_le b4.1
  obtain ⟨x, rfl⟩ := Int.eq_ofNat_of_zero_le b5.1
  have hok : (⟨k, l, s, a, b, x⟩ : Wire.Fr).ok := ⟨by show k < 256; omega, by show l < 256; omega, by show s < 65536; omega, by show a < 256; omega, by show b < 256; omega, by show x < 4294967296; omega⟩
  clear w0 w1 w2 w3 w4 w5 b0 b1 b2 b3 b4 b5
  have HB : Hid (∀ w : World, Box (w.alloc (.cells #[.int .u8 k, .int .u8 l, .int .u16 s, .int .u8 a, .int .u8 b, .int .u32 x] 25)) w.heap.size ⟨k, l, s, a, b, x⟩) := fun w => Box.made w ⟨k, l, s, a, b, x⟩
  cases hs : (⟨k, l, s, a, b, x⟩ : Wire.Fr).sound with
  | true =>
    obtain ⟨n1, hn1⟩ : ∃ n, (⟨k, l, s, a, b, x⟩ : Wire.Fr).enc.length = n := ⟨_, rfl⟩
    obtain ⟨S1, hS1⟩ : ∃ S, strOf (⟨k, l, s, a, b, x⟩ : Wire.Fr).enc = S := ⟨_, rfl⟩
    have HL : Hid ((⟨k, l, s, a, b, x⟩ : Wire.Fr).enc.length = n1 ∧ strOf (⟨k, l, s, a, b, x⟩ : Wire.Fr).enc = S1) := ⟨hn1, hS1⟩
    clear hn1 hS1
    have HF : Hid ((⟨k, l, s, a, b, x⟩ : Wire.Fr).ok ∧ (⟨k, l, s, a, b, x⟩ : Wire.Fr).sound = true) := ⟨hok, hs⟩
    clear hok hs
    go_enter Try.func6, Try.ntmps6
    go_wp2_with fail
    refine (enc_is ⟨k, l, s, a, b, x⟩ HF.out n1 HL.out.1 _).mono ?_
    rintro e u1 ⟨g1, c1, rfl, o1, h1⟩
    have B1 := (HB.out w).below h1
    obtain ⟨p0, p1, p2, p3, p4, p5⟩ := id B1
    go_wp2_with fail
    refine (refEnc_is ⟨k, l, s, a, b, x⟩ HF.out n1 HL.out.1 _).mono ?_
    rintro e u2 ⟨g2, c2, rfl, o2, h2⟩
    clear p0 p1 p2 p3 p4 p5
    have z1 := fun n : Since u2 => n.run (cap := c1) (o1.below h2).octs
    have z2 := fun n : Since u2 => n.run (cap := c2) o2.octs
    simp only [HL.out.2] at z1 z2
    obtain ⟨p0, p1, p2, p3, p4, p5⟩ := B1.below h2
    clear B1
    simp only at p0 p1 p2 p3 p4 p5
    go_wp2_with fail
    have hne := Since.any u2
    have q0 := fun n : Since u2 => n.cell p0
    have q1 := fun n : Since u2 => n.cell p1
    have q2 := fun n : Since u2 => n.cell p2
    have q3 := fun n : Since u2 => n.cell p3
    have q4 := fun n : Since u2 => n.cell p4
    have q5 := fun n : Since u2 => n.cell p5
    refine region_since (u := u2) (by kernel_rfl) (by kernel_rfl) (Below.refl _ _) ?_
    repeat (go_big_quiet_step (first
      | (go_at_call 15; exact Since.calls _ (known_any _))
      | (go_at_call 16; exact Since.calls _ (sound_is ⟨k, l, s, a, b, x⟩ HF.out.1 true HF.out.2 _))
      | (go_at_call 18; exact Since.calls _ (refSound_is ⟨k, l, s, a, b, x⟩ HF.out.1 true HF.out.2 _))))
    refine wpQuiet_nil ?_
    intro _ hw'
    obtain ⟨nq, hw''⟩ := hw'
    subst hw''
    go_wp2_with fail
    go_ret
    exact ⟨rfl, later (later (later (fresh _ _) h1) h2) nq.h⟩
  | false =>
    have HF : Hid ((⟨k, l, s, a, b, x⟩ : Wire.Fr).ok ∧ (⟨k, l, s, a, b, x⟩ : Wire.Fr).sound = false) := ⟨hok, hs⟩
    clear hok hs
    go_enter Try.func6, Try.ntmps6
    go_wp2_with fail
    refine (enc_bad ⟨k, l, s, a, b, x⟩ HF.out.1 HF.out.2 _).mono ?_
    rintro e u1 ⟨rfl, h1⟩
    have B1 := (HB.out w).below h1
    obtain ⟨p0, p1, p2, p3, p4, p5⟩ := id B1
    go_wp2_with fail
    refine (refEnc_bad ⟨k, l, s, a, b, x⟩ HF.out.1 HF.out.2 _).mono ?_
    rintro e u2 ⟨rfl, h2⟩
    clear p0 p1 p2 p3 p4 p5
    have z1 := fun n : Since u2 => n.run (cap := 0) (Octs.empty (a := none))
    obtain ⟨p0, p1, p2, p3, p4, p5⟩ := B1.below h2
    clear B1
    simp only at p0 p1 p2 p3 p4 p5
    go_wp2_with fail
    have hne := Since.any u2
    have q0 := fun n : Since u2 => n.cell p0
    have q1 := fun n : Since u2 => n.cell p1
    have q2 := fun n : Since u2 => n.cell p2
    have q3 := fun n : Since u2 => n.cell p3
    have q4 := fun n : Since u2 => n.cell p4
    have q5 := fun n : Since u2 => n.cell p5
    refine region_since (u := u2) (by kernel_rfl) (by kernel_rfl) (Below.refl _ _) ?_
    repeat (go_big_quiet_step (first
      | (go_at_call 15; exact Since.calls _ (known_any _))
      | (go_at_call 16; exact Since.calls _ (sound_is ⟨k, l, s, a, b, x⟩ HF.out.1 false HF.out.2 _))
      | (go_at_call 18; exact Since.calls _ (refSound_is ⟨k, l, s, a, b, x⟩ HF.out.1 false HF.out.2 _))))
    refine wpQuiet_nil ?_
    intro _ hw'
    obtain ⟨nq, hw''⟩ := hw'
    subst hw''
    go_wp2_with fail
    go_ret
    exact ⟨rfl, later (later (later (fresh _ _) h1) h2) nq.h⟩

set_option maxRecDepth 100000 in
theorem lifted (os : Os) (started : os.Started) (H : Type) (enc : TypeId × Value → H) :
    ReturnsInHanded {} Try.checked os 6 .any (Rows.wireEncodesSpec.pre6 enc Try.prog Try.f6 Rows.wireEncodesRow.domain false) (Rows.wireEncodesSpec.post enc Try.prog Try.f6 false true false false) := by
  refine returnsInHanded_of_change (C := Try.checked) own started (by kernel_rfl) Try.func6
    (ChangeSpec.witness6 (enc := enc) (C := Try.checked) false ⟨#[], #[.agg #[.int .u8 0, .int .u8 0, .int .u16 0, .int .u8 0, .int .u8 0, .int .u32 0]], []⟩ 8 (by kernel_rfl) (by kernel_rfl) (by kernel_rfl) (by kernel_rfl)) ?_
  intro W base args ds gs before hval0 hW hcnd _
  have hval : ∀ (j : Nat) t v, Try.f6.params[j]? = some t → args[j]? = some v → Value.okWide Try.prog W .any base t v := hval0
  have hW' := hW
  obtain ⟨p, q, hA0, hV, rfl, hfz, hnd⟩ := hW
  have hA : DataW.TrodAll enc Try.prog W 0 (fun _ => true) true Try.f6.params.toList args.toList ds p := hA0
  rw [Try.params6] at hA hval
  obtain ⟨v0, d0, rfl, rfl, h0⟩ := trodAll_one hA
  obtain ⟨rfl, rfl⟩ := trodVars_none hV
  obtain ⟨a0, a1, a2, a3, a4, a5, rfl, rfl, rfl, w0, w1, w2, w3, w4, w5⟩ := open_frame (hval 0 25 v0 rfl rfl) h0
  clear hA0 hval0
  refine (walk a0 a1 a2 a3 a4 a5 w0 w1 w2 w3 w4 w5 W).mono fun e W' ⟨he, bel⟩ => ?_
  subst he
  exact ⟨_, rfl, _, _, _, [], _, [], hW', trodAll_mk1 (shut_bool Try.underlying4 _), trodAll_mk1 (shut_frame w0 w1 w2 w3 w4 w5), rfl, bel.frame _, fun h => by cases h⟩

theorem over : Rows.wireEncodesRow.holds Try.pinned (OpenSpec.ofChange Rows.wireEncodesSpec) :=
  OpenClaim.holds_of_wide 6 Try.f6 rfl rfl rfl rfl rfl rfl rfl ⟨rfl, rfl, rfl, rfl, rfl⟩ rfl rfl rfl rfl rfl (by kernel_rfl) Try.func6 (by kernel_rfl)
    (of_decide_eq_true (by kernel_rfl)) (by unfold Func.isWrapper; first | (rw [if_pos (by decide +kernel)]; kernel_rfl) | (rw [if_neg (by decide +kernel)]; exact ⟨rfl, rfl⟩))
    (fun os started H enc _ => lifted os started H enc)

theorem proved : Rows.WireEncodesSaid :=
  over
#print axioms proved
end Go.Proofs.Ytmllgbgcageccaa.wireEncodes
