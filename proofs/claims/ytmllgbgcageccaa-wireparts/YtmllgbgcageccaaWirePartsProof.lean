/-
  For every choice of a frame, the law WireParts of package shunterlaw03 returns true and leaves its arguments as they were. Conditions: none.
-/
import Derived.Test.YtmllgbgcageccaaWireK
import Derived.Test.YtmllgbgcageccaaSince
import Derived.Test.YtmllgbgcageccaaRows
import Derived.WalkKit
import Derived.ProofKit
import Derived.OpenShut
import Derived.ShutString
import Derived.ChangeOld
import Derived.Below
namespace Go.Proofs.Ytmllgbgcageccaa.wireParts
open Go.ChangeShapes Go.WideShapes Go.ChangeAt Go.RowKit
set_option linter.unusedVariables false      -- a walk need not use every 'w<i>' (that an integer argument fits its kind)

theorem own : ownKnob Try.prog.godebug = none := by kernel_rfl

set_option maxHeartbeats 1000000 in
theorem walk (a0 : Int) (a1 : Int) (a2 : Int) (a3 : Int) (a4 : Int) (a5 : Int) (w0 : (Lit.int .u8 a0).wf = true) (w1 : (Lit.int .u8 a1).wf = true) (w2 : (Lit.int .u16 a2).wf = true) (w3 : (Lit.int .u8 a3).wf = true) (w4 : (Lit.int .u8 a4).wf = true) (w5 : (Lit.int .u32 a5).wf = true) (w : World) :
    Calls Try.prog 5 #[.int .u8 a0, .int .u8 a1, .int .u16 a2, .int .u8 a3, .int .u8 a4, .int .u32 a5] w fun e w' => e = .returned (.bool true) ∧ Below w.heap.size w w' := by
  have b0 := bounds_u8 w0
  have b1 := bounds_u8 w1
  have b2 := bounds_u16 w2
  have b3 := bounds_u8 w3
  have b4 := bounds_u8 w4
  have b5 := bounds_u32 w5
  obtain ⟨k, rfl⟩ := Int.eq_ofNat_of_zero_le b0.1
  obtain ⟨l, rfl⟩ := Int.eq_ofNat_of_zero_le b1.1
  obtain ⟨s, rfl⟩ := Int.eq_ofNat_of_zero_le b2.1
  obtain ⟨a, rfl⟩ := Int.eq_ofNat_of_zero_le b3.1
  obtain ⟨b, rfl⟩ := Int.eq_ofNat_of_zero_le b4.1
  obtain ⟨x, rfl⟩ := Int.eq_ofNat_of_zero_le b5.1
  have hk : k < 256 := by omega
  have hl : l < 256 := by omega
  have hs : s < 65536 := by omega
  have ha : a < 256 := by omega
  have hb : b < 256 := by omega
  have hx : x < 4294967296 := by omega
  clear w0 w1 w2 w3 w4 w5 b0 b1 b2 b3 b4 b5
  obtain ⟨F, hF⟩ := made k l s a b x hs hx
  have HM : Hid (mkFr k l s a b x = F ∧ F.ok ∧ F.sound = true ∧ F.s = s ∧ (F.k = 1 → F.x = x)) := hF
  clear hF
  go_enter Try.func5, Try.ntmps5
  go_wp2_with fail
  refine (make_is k l s a b x (by omega) F HM.out.1 _).mono ?_
  rintro e u1 ⟨rfl, h1⟩
  by_cases hq : F.k = 1
  · have hkb : ((F.k : Int) == 1) = true := by rw [hq]; rfl
    have HL : Hid (F.enc.length = 12) := by show _ = _; rw [Wire.enc_length, if_pos hq]
    have HK : Hid (F.k = 1) := hq
    clear hq
    have HE : Hid (F.enc.getD 0 0 = F.k ∧ F.enc.getD 1 0 = F.l ∧ F.enc.getD 2 0 = F.s / 256 ∧ F.enc.getD 3 0 = F.s % 256 ∧ F.enc.getD 4 0 = F.a ∧ F.enc.getD 5 0 = F.b ∧ F.enc.getD 9 0 = F.x % 256) := by
      have hl := Wire.fields_length F
      rw [if_pos HK.out] at hl
      have e := fun i h => Wire.enc_getD F i h
      unfold Wire.Fr.fields Wire.Fr.tail at hl e
      rw [if_pos HK.out] at hl e
      exact ⟨by rw [e 0 (by rw [hl]; omega)]; rfl, by rw [e 1 (by rw [hl]; omega)]; rfl, by rw [e 2 (by rw [hl]; omega)]; rfl, by rw [e 3 (by rw [hl]; omega)]; rfl, by rw [e 4 (by rw [hl]; omega)]; rfl, by rw [e 5 (by rw [hl]; omega)]; rfl, by rw [e 9 (by rw [hl]; omega)]; rfl⟩
    have hs2 := HM.out.2.2.2.1
    have hx2 := HM.out.2.2.2.2 HK.out
    obtain ⟨fk, fl, fs, fa, fb, fx⟩ := F
    simp only at hs2 hx2
    subst hs2
    subst hx2
    obtain ⟨c2, hc2⟩ : ∃ c, c = fs / 256 := ⟨_, rfl⟩
    obtain ⟨c3, hc3⟩ : ∃ c, c = fs % 256 := ⟨_, rfl⟩
    have l2 : c2 < 256 := by omega
    have l3 : c3 < 256 := by omega
    have HW : Hid (IntKind.u16.wrap (c2 : Int) = c2 ∧ IntKind.u16.wrap ((c2 : Int) * 256) = (c2 : Int) * 256 ∧ IntKind.u16.wrap (c3 : Int) = c3 ∧ IntKind.u16.wrap ((c2 : Int) * 256 + (c3 : Int)) = fs) := by
      show _ ∧ _
      simp only [IntKind.wrap_u16]; omega
    obtain ⟨c9, hc9⟩ : ∃ c, c = fx % 256 := ⟨_, rfl⟩
    have l9 : c9 < 256 := by omega
    have HW9 : Hid (IntKind.u8.wrap (fx : Int) = c9) := by
      show _ = _
      simp only [IntKind.wrap_u8]; omega
    have H9 : Hid (c9 = fx % 256) := hc9
    clear hc9
    have H2 : Hid (c2 = fs / 256) := hc2
    have H3 : Hid (c3 = fs % 256) := hc3
    clear hc2 hc3
    have HB : Hid (∀ w : World, Box (w.alloc (.cells #[.int .u8 fk, .int .u8 fl, .int .u16 fs, .int .u8 fa, .int .u8 fb, .int .u32 fx] 25)) w.heap.size ⟨fk, fl, fs, fa, fb, fx⟩) := fun w => Box.made w ⟨fk, fl, fs, fa, fb, fx⟩
    unfold fr
    simp only at hkb HE ⊢
    go_wp2_with fail
    refine (enc_is ⟨fk, fl, fs, fa, fb, fx⟩ ⟨HM.out.2.1, HM.out.2.2.1⟩ 12 HL.out _).mono ?_
    rintro e u2 ⟨g, c, rfl, o2, h2⟩
    have B2 := (HB.out u1).below h2
    obtain ⟨p0, p1, p2, p3, p4, p5⟩ := id B2
    have m0 := o2.cell 0 (by omega); rw [HE.out.1] at m0
    have m1 := o2.cell 1 (by omega); rw [HE.out.2.1] at m1
    have m2 := o2.cell 2 (by omega); rw [HE.out.2.2.1, ← H2.out] at m2
    have m3 := o2.cell 3 (by omega); rw [HE.out.2.2.2.1, ← H3.out] at m3
    have m4 := o2.cell 4 (by omega); rw [HE.out.2.2.2.2.1] at m4
    have m5 := o2.cell 5 (by omega); rw [HE.out.2.2.2.2.2.1] at m5
    have m9 := o2.cell 9 (by omega); rw [HE.out.2.2.2.2.2.2, ← H9.out] at m9
    simp only at p0 p1 p2 p3 p4 p5
    go_wp2_with fail
    obtain ⟨y1, y2, y3, y4⟩ := HW.out
    have y9 := HW9.out
    have hkn : ((fk : Int) != 1) = false := by simp only [bne, hkb]; rfl
    have hne := Since.any u2
    have zp0 := fun n : Since u2 => n.cell p0
    have zp1 := fun n : Since u2 => n.cell p1
    have zp3 := fun n : Since u2 => n.cell p3
    have zp4 := fun n : Since u2 => n.cell p4
    have zm0 := fun n : Since u2 => n.cell m0
    have zm1 := fun n : Since u2 => n.cell m1
    have zm2 := fun n : Since u2 => n.cell m2
    have zm3 := fun n : Since u2 => n.cell m3
    have zm4 := fun n : Since u2 => n.cell m4
    have zm5 := fun n : Since u2 => n.cell m5
    have zm9 := fun n : Since u2 => n.cell m9
    refine region_since (u := u2) (by kernel_rfl) (by kernel_rfl) (Below.refl _ _) ?_
    repeat (go_big_quiet_step ((go_at_call 15; exact Since.calls _ (known_any _))))
    refine wpQuiet_nil ?_
    intro _ hw'
    obtain ⟨nq, hw''⟩ := hw'
    subst hw''
    go_wp2_with fail
    go_ret
    exact ⟨rfl, later (later (later h1 (fresh _ _)) h2) nq.h⟩
  · have hkb : ((F.k : Int) == 1) = false := by simp; omega
    have HL : Hid (F.enc.length = 6) := by show _ = _; rw [Wire.enc_length, if_neg hq]
    have HK : Hid (F.k ≠ 1) := hq
    clear hq
    have HE : Hid (F.enc.getD 0 0 = F.k ∧ F.enc.getD 1 0 = F.l ∧ F.enc.getD 2 0 = F.s / 256 ∧ F.enc.getD 3 0 = F.s % 256) := by
      have hl := Wire.fields_length F
      rw [if_neg HK.out] at hl
      have e := fun i h => Wire.enc_getD F i h
      unfold Wire.Fr.fields Wire.Fr.tail at hl e
      rw [if_neg HK.out] at hl e
      exact ⟨by rw [e 0 (by rw [hl]; omega)]; rfl, by rw [e 1 (by rw [hl]; omega)]; rfl, by rw [e 2 (by rw [hl]; omega)]; rfl, by rw [e 3 (by rw [hl]; omega)]; rfl⟩
    have hs2 := HM.out.2.2.2.1
    obtain ⟨fk, fl, fs, fa, fb, fx⟩ := F
    simp only at hs2
    subst hs2
    obtain ⟨c2, hc2⟩ : ∃ c, c = fs / 256 := ⟨_, rfl⟩
    obtain ⟨c3, hc3⟩ : ∃ c, c = fs % 256 := ⟨_, rfl⟩
    have l2 : c2 < 256 := by omega
    have l3 : c3 < 256 := by omega
    have HW : Hid (IntKind.u16.wrap (c2 : Int) = c2 ∧ IntKind.u16.wrap ((c2 : Int) * 256) = (c2 : Int) * 256 ∧ IntKind.u16.wrap (c3 : Int) = c3 ∧ IntKind.u16.wrap ((c2 : Int) * 256 + (c3 : Int)) = fs) := by
      show _ ∧ _
      simp only [IntKind.wrap_u16]; omega
    have H2 : Hid (c2 = fs / 256) := hc2
    have H3 : Hid (c3 = fs % 256) := hc3
    clear hc2 hc3
    have HB : Hid (∀ w : World, Box (w.alloc (.cells #[.int .u8 fk, .int .u8 fl, .int .u16 fs, .int .u8 fa, .int .u8 fb, .int .u32 fx] 25)) w.heap.size ⟨fk, fl, fs, fa, fb, fx⟩) := fun w => Box.made w ⟨fk, fl, fs, fa, fb, fx⟩
    unfold fr
    simp only at hkb HE ⊢
    go_wp2_with fail
    refine (enc_is ⟨fk, fl, fs, fa, fb, fx⟩ ⟨HM.out.2.1, HM.out.2.2.1⟩ 6 HL.out _).mono ?_
    rintro e u2 ⟨g, c, rfl, o2, h2⟩
    have B2 := (HB.out u1).below h2
    obtain ⟨p0, p1, p2, p3, p4, p5⟩ := id B2
    have m0 := o2.cell 0 (by omega); rw [HE.out.1] at m0
    have m1 := o2.cell 1 (by omega); rw [HE.out.2.1] at m1
    have m2 := o2.cell 2 (by omega); rw [HE.out.2.2.1, ← H2.out] at m2
    have m3 := o2.cell 3 (by omega); rw [HE.out.2.2.2, ← H3.out] at m3
    simp only at p0 p1 p2 p3 p4 p5
    go_wp2_with fail
    obtain ⟨y1, y2, y3, y4⟩ := HW.out
    have hkn : ((fk : Int) != 1) = true := by simp only [bne, hkb]; rfl
    have hne := Since.any u2
    have zp0 := fun n : Since u2 => n.cell p0
    have zp1 := fun n : Since u2 => n.cell p1
    have zm0 := fun n : Since u2 => n.cell m0
    have zm1 := fun n : Since u2 => n.cell m1
    have zm2 := fun n : Since u2 => n.cell m2
    have zm3 := fun n : Since u2 => n.cell m3
    refine region_since (u := u2) (by kernel_rfl) (by kernel_rfl) (Below.refl _ _) ?_
    repeat (go_big_quiet_step ((go_at_call 15; exact Since.calls _ (known_any _))))
    refine wpQuiet_nil ?_
    intro _ hw'
    obtain ⟨nq, hw''⟩ := hw'
    subst hw''
    go_wp2_with fail
    go_ret
    exact ⟨rfl, later (later (later h1 (fresh _ _)) h2) nq.h⟩

set_option maxRecDepth 100000 in
theorem lifted (os : Os) (started : os.Started) (H : Type) (enc : TypeId × Value → H) :
    ReturnsInHanded {} Try.checked os 5 .any (Rows.wirePartsSpec.pre6 enc Try.prog Try.f5 Rows.wirePartsRow.domain false) (Rows.wirePartsSpec.post enc Try.prog Try.f5 false true false false) := by
  refine returnsInHanded_of_change (C := Try.checked) own started (by kernel_rfl) Try.func5
    (ChangeSpec.witness6 (enc := enc) (C := Try.checked) false ⟨#[], #[.int .u8 0, .int .u8 0, .int .u16 0, .int .u8 0, .int .u8 0, .int .u32 0], []⟩ 8 (by kernel_rfl) (by kernel_rfl) (by kernel_rfl) (by kernel_rfl)) ?_
  intro W base args ds gs before hval0 hW hcnd _
  have hval : ∀ (j : Nat) t v, Try.f5.params[j]? = some t → args[j]? = some v → Value.okWide Try.prog W .any base t v := hval0
  have hW' := hW
  obtain ⟨p, q, hA0, hV, rfl, hfz, hnd⟩ := hW
  have hA : DataW.TrodAll enc Try.prog W 0 (fun _ => true) true Try.f5.params.toList args.toList ds p := hA0
  rw [Try.params5] at hA hval
  obtain ⟨v0, vs0, d0, ds0, p0, q0, hargs, rfl, rfl, h0, r0⟩ := trodAll_cons hA
  obtain ⟨v1, vs1, d1, ds1, p1, q1, rfl, rfl, rfl, h1, r1⟩ := trodAll_cons r0
  obtain ⟨v2, vs2, d2, ds2, p2, q2, rfl, rfl, rfl, h2, r2⟩ := trodAll_cons r1
  obtain ⟨v3, vs3, d3, ds3, p3, q3, rfl, rfl, rfl, h3, r3⟩ := trodAll_cons r2
  obtain ⟨v4, vs4, d4, ds4, p4, q4, rfl, rfl, rfl, h4, r4⟩ := trodAll_cons r3
  obtain ⟨v5, vs5, d5, ds5, p5, q5, rfl, rfl, rfl, h5, r5⟩ := trodAll_cons r4
  obtain ⟨rfl, rfl, rfl⟩ := trodAll_nil r5
  obtain rfl : args = #[v0, v1, v2, v3, v4, v5] := by cases args; simp_all
  obtain ⟨rfl, rfl⟩ := trodVars_none hV
  obtain ⟨a0, rfl, rfl, rfl, w0⟩ := open_int Try.underlying5 (hval 0 5 v0 rfl rfl) h0
  obtain ⟨a1, rfl, rfl, rfl, w1⟩ := open_int Try.underlying5 (hval 1 5 v1 rfl rfl) h1
  obtain ⟨a2, rfl, rfl, rfl, w2⟩ := open_int Try.underlying22 (hval 2 22 v2 rfl rfl) h2
  obtain ⟨a3, rfl, rfl, rfl, w3⟩ := open_int Try.underlying5 (hval 3 5 v3 rfl rfl) h3
  obtain ⟨a4, rfl, rfl, rfl, w4⟩ := open_int Try.underlying5 (hval 4 5 v4 rfl rfl) h4
  obtain ⟨a5, rfl, rfl, rfl, w5⟩ := open_int Try.underlying23 (hval 5 23 v5 rfl rfl) h5
  clear hA0 hval0
  refine (walk a0 a1 a2 a3 a4 a5 w0 w1 w2 w3 w4 w5 W).mono fun e W' ⟨he, bel⟩ => ?_
  subst he
  exact ⟨_, rfl, _, _, _, [], _, [], hW', trodAll_mk1 (shut_bool Try.underlying4 _), (trodAll_cons_mk (shut_int Try.underlying5 w0) (trodAll_cons_mk (shut_int Try.underlying5 w1) (trodAll_cons_mk (shut_int Try.underlying22 w2) (trodAll_cons_mk (shut_int Try.underlying5 w3) (trodAll_cons_mk (shut_int Try.underlying5 w4) (trodAll_cons_mk (shut_int Try.underlying23 w5) trodAll_mk0)))))), rfl, bel.frame _, fun h => by cases h⟩

theorem over : Rows.wirePartsRow.holds Try.pinned (OpenSpec.ofChange Rows.wirePartsSpec) :=
  OpenClaim.holds_of_wide 5 Try.f5 rfl rfl rfl rfl rfl rfl rfl ⟨rfl, rfl, rfl, rfl, rfl⟩ rfl rfl rfl rfl rfl (by kernel_rfl) Try.func5 (by kernel_rfl)
    (of_decide_eq_true (by kernel_rfl)) (by unfold Func.isWrapper; first | (rw [if_pos (by decide +kernel)]; kernel_rfl) | (rw [if_neg (by decide +kernel)]; exact ⟨rfl, rfl⟩))
    (fun os started H enc _ => lifted os started H enc)

theorem proved : Rows.WirePartsSaid :=
  over
#print axioms proved
end Go.Proofs.Ytmllgbgcageccaa.wireParts
