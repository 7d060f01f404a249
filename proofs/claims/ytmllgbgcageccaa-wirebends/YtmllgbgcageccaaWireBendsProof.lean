/-
  For every choice of a frame, every place and every byte, the law WireBends of package shunterlaw03 returns true and leaves its arguments as they were. Conditions: none.
-/
import Derived.Test.YtmllgbgcageccaaWireK
import Derived.Test.YtmllgbgcageccaaRows
import Derived.WalkKit
import Derived.ProofKit
import Derived.OpenShut
import Derived.ShutString
import Derived.ChangeOld
import Derived.Below
namespace Go.Proofs.Ytmllgbgcageccaa.wireBends
open Go.ChangeShapes Go.WideShapes Go.ChangeAt Go.RowKit
set_option linter.unusedVariables false      -- a walk need not use every 'w<i>' (that an integer argument fits its kind)

theorem own : ownKnob Try.prog.godebug = none := by kernel_rfl

set_option maxHeartbeats 1000000 in
theorem walk (a0 : Int) (a1 : Int) (a2 : Int) (a3 : Int) (a4 : Int) (a5 : Int) (a6 : Int) (a7 : Int) (w0 : (Lit.int .u8 a0).wf = true) (w1 : (Lit.int .u8 a1).wf = true) (w2 : (Lit.int .u16 a2).wf = true) (w3 : (Lit.int .u8 a3).wf = true) (w4 : (Lit.int .u8 a4).wf = true) (w5 : (Lit.int .u32 a5).wf = true) (w6 : (Lit.int .u8 a6).wf = true) (w7 : (Lit.int .u8 a7).wf = true) (w : World) :
    Calls Try.prog 9 #[.int .u8 a0, .int .u8 a1, .int .u16 a2, .int .u8 a3, .int .u8 a4, .int .u32 a5, .int .u8 a6, .int .u8 a7] w fun e w' => e = .returned (.bool true) ∧ Below w.heap.size w w' := by
  have b0 := bounds_u8 w0
  have b1 := bounds_u8 w1
  have b2 := bounds_u16 w2
  have b3 := bounds_u8 w3
  have b4 := bounds_u8 w4
  have b5 := bounds_u32 w5
  have b6 := bounds_u8 w6
  have b7 := bounds_u8 w7
  obtain ⟨k, rfl⟩ := Int.eq_ofNat_of_zero_le b0.1
  obtain ⟨l, rfl⟩ := Int.eq_ofNat_of_zero_le b1.1
  obtain ⟨s, rfl⟩ := Int.eq_ofNat_of_zero_le b2.1
  obtain ⟨a, rfl⟩ := Int.eq_ofNat_of_zero_le b3.1
  obtain ⟨b, rfl⟩ := Int.eq_ofNat_of_zero_le b4.1
  obtain ⟨x, rfl⟩ := Int.eq_ofNat_of_zero_le b5.1
  obtain ⟨t, rfl⟩ := Int.eq_ofNat_of_zero_le b6.1
  obtain ⟨y, rfl⟩ := Int.eq_ofNat_of_zero_le b7.1
  have hk : k < 256 := by omega
  have hl : l < 256 := by omega
  have hs : s < 65536 := by omega
  have ha : a < 256 := by omega
  have hb : b < 256 := by omega
  have hx : x < 4294967296 := by omega
  have ht : t < 256 := by omega
  have hy : y < 256 := by omega
  clear w0 w1 w2 w3 w4 w5 w6 w7 b0 b1 b2 b3 b4 b5 b6 b7
  obtain ⟨F, hF⟩ := made k l s a b x hs hx
  have HM : Hid (mkFr k l s a b x = F ∧ F.ok ∧ F.sound = true ∧ F.s = s ∧ (F.k = 1 → F.x = x)) := hF
  clear hF
  go_enter Try.func9, Try.ntmps9
  go_wp2_with fail
  refine (make_is k l s a b x (by omega) F HM.out.1 _).mono ?_
  rintro e u1 ⟨rfl, h1⟩
  by_cases hq : F.k = 1
  · have hkb : ((F.k : Int) == 1) = true := by rw [hq]; rfl
    have HL : Hid (F.enc.length = 12) := by show _ = _; rw [Wire.enc_length, if_pos hq]
    have HK : Hid (F.k = 1) := hq
    clear hq
    obtain ⟨K, hKe⟩ : ∃ K, K = t % 12 := ⟨_, rfl⟩
    have hK : K < 12 := by rw [hKe]; exact Nat.mod_lt _ (by omega)
    have hK2 : (t : Int) % 12 = (K : Int) := by rw [hKe]; rfl
    clear hKe
    obtain ⟨C, hCe⟩ : ∃ C, C = F.enc.getD K 0 := ⟨_, rfl⟩
    have hC : C < 256 := by rw [hCe]; exact Oct_getD (Wire.enc_oct HM.out.2.1) _
    have HCe : Hid (C = F.enc.getD K 0) := hCe
    clear hCe
    by_cases hy0 : y = 0
    · have hyb : ((y : Int) == 0) = true := by rw [hy0]; rfl
      have HV : Hid (decVal .u16 (F.enc.set K (C ^^^ y)) = .tuple #[fr F, .int .u16 0]) := by
        show _ = _
        rw [hy0, Nat.xor_zero, HCe.out, Crc.getD_mem (by rw [HL.out]; exact hK), List.set_getElem_self]
        exact good_val (k := .u16) (Wire.dec_enc HM.out.2.1 HM.out.2.2.1)
      clear hy0
      go_wp2_with fail
      refine (enc_is F ⟨HM.out.2.1, HM.out.2.2.1⟩ 12 HL.out _).mono ?_
      rintro e u2 ⟨g, c, rfl, o2, h2⟩
      have hc2 := o2.cell K hK
      have hf2 := o2.frozen K
      have hg : u1.heap.size ≤ g := by
        rcases o2.shape with ⟨e, _⟩ | ⟨g', e, hb, _, _⟩
        · cases e
        · cases e; exact hb
      rw [← HCe.out] at hc2
      clear hkb HK
      go_wp2_with fail
      have o3 := o2.bent K C y hC hy
      have h3 : Below u1.heap.size u1 (u2.setCell ⟨g, K, none⟩ (.int .u8 (bits .xor .u8 (C : Int) (y : Int)))) := h2.setCell hg _
      refine (decode_is _ _ _ _ _ o3.octs o3.cap _ HV.out).mono ?_
      rintro e u4 ⟨rfl, h4⟩
      clear HV HCe HL HM hc2 hf2 hK2
      obtain ⟨fk, fl, fs, fa, fb, fx⟩ := F
      unfold fr
      simp only
      go_wp2_with fail
      refine (known_any _).mono ?_
      rintro e u5 ⟨rfl, h5⟩
      go_wp2_with fail
      go_ret
      exact ⟨rfl, later (later (later (later h1 h3) h4) (fresh _ _)) h5⟩
    · have hyb : ((y : Int) == 0) = false := by simp; omega
      have HV : Hid (decVal .u16 (F.enc.set K (C ^^^ y)) = .tuple #[.agg #[.int .u8 0, .int .u8 0, .int .u16 0, .int .u8 0, .int .u8 0, .int .u32 0], .int .u16 30]) := by
        show _ = _
        rw [HCe.out]
        exact bad_val (k := .u16) (Wire.dec_bent HM.out.2.1 (by rw [HL.out]; exact hK) hy hy0)
      clear hy0
      go_wp2_with fail
      refine (enc_is F ⟨HM.out.2.1, HM.out.2.2.1⟩ 12 HL.out _).mono ?_
      rintro e u2 ⟨g, c, rfl, o2, h2⟩
      have hc2 := o2.cell K hK
      have hf2 := o2.frozen K
      have hg : u1.heap.size ≤ g := by
        rcases o2.shape with ⟨e, _⟩ | ⟨g', e, hb, _, _⟩
        · cases e
        · cases e; exact hb
      rw [← HCe.out] at hc2
      clear hkb HK
      go_wp2_with fail
      have o3 := o2.bent K C y hC hy
      have h3 : Below u1.heap.size u1 (u2.setCell ⟨g, K, none⟩ (.int .u8 (bits .xor .u8 (C : Int) (y : Int)))) := h2.setCell hg _
      refine (decode_is _ _ _ _ _ o3.octs o3.cap _ HV.out).mono ?_
      rintro e u4 ⟨rfl, h4⟩
      clear HV HCe HL HM hc2 hf2 hK2
      go_wp2_with fail
      refine (known_any _).mono ?_
      rintro e u5 ⟨rfl, h5⟩
      go_wp2_with fail
      go_ret
      exact ⟨rfl, later (later (later (later h1 h3) h4) (fresh _ _)) h5⟩
  · have hkb : ((F.k : Int) == 1) = false := by simp; omega
    have HL : Hid (F.enc.length = 6) := by show _ = _; rw [Wire.enc_length, if_neg hq]
    have HK : Hid (F.k ≠ 1) := hq
    clear hq
    obtain ⟨K, hKe⟩ : ∃ K, K = t % 6 := ⟨_, rfl⟩
    have hK : K < 6 := by rw [hKe]; exact Nat.mod_lt _ (by omega)
    have hK2 : (t : Int) % 6 = (K : Int) := by rw [hKe]; rfl
    clear hKe
    obtain ⟨C, hCe⟩ : ∃ C, C = F.enc.getD K 0 := ⟨_, rfl⟩
    have hC : C < 256 := by rw [hCe]; exact Oct_getD (Wire.enc_oct HM.out.2.1) _
    have HCe : Hid (C = F.enc.getD K 0) := hCe
    clear hCe
    by_cases hy0 : y = 0
    · have hyb : ((y : Int) == 0) = true := by rw [hy0]; rfl
      have HV : Hid (decVal .u16 (F.enc.set K (C ^^^ y)) = .tuple #[fr F, .int .u16 0]) := by
        show _ = _
        rw [hy0, Nat.xor_zero, HCe.out, Crc.getD_mem (by rw [HL.out]; exact hK), List.set_getElem_self]
        exact good_val (k := .u16) (Wire.dec_enc HM.out.2.1 HM.out.2.2.1)
      clear hy0
      go_wp2_with fail
      refine (enc_is F ⟨HM.out.2.1, HM.out.2.2.1⟩ 6 HL.out _).mono ?_
      rintro e u2 ⟨g, c, rfl, o2, h2⟩
      have hc2 := o2.cell K hK
      have hf2 := o2.frozen K
      have hg : u1.heap.size ≤ g := by
        rcases o2.shape with ⟨e, _⟩ | ⟨g', e, hb, _, _⟩
        · cases e
        · cases e; exact hb
      rw [← HCe.out] at hc2
      clear hkb HK
      go_wp2_with fail
      have o3 := o2.bent K C y hC hy
      have h3 : Below u1.heap.size u1 (u2.setCell ⟨g, K, none⟩ (.int .u8 (bits .xor .u8 (C : Int) (y : Int)))) := h2.setCell hg _
      refine (decode_is _ _ _ _ _ o3.octs o3.cap _ HV.out).mono ?_
      rintro e u4 ⟨rfl, h4⟩
      clear HV HCe HL HM hc2 hf2 hK2
      obtain ⟨fk, fl, fs, fa, fb, fx⟩ := F
      unfold fr
      simp only
      go_wp2_with fail
      refine (known_any _).mono ?_
      rintro e u5 ⟨rfl, h5⟩
      go_wp2_with fail
      go_ret
      exact ⟨rfl, later (later (later (later h1 h3) h4) (fresh _ _)) h5⟩
    · have hyb : ((y : Int) == 0) = false := by simp; omega
      have HV : Hid (decVal .u16 (F.enc.set K (C ^^^ y)) = .tuple #[.agg #[.int .u8 0, .int .u8 0, .int .u16 0, .int .u8 0, .int .u8 0, .int .u32 0], .int .u16 30]) := by
        show _ = _
        rw [HCe.out]
        exact bad_val (k := .u16) (Wire.dec_bent HM.out.2.1 (by rw [HL.out]; exact hK) hy hy0)
      clear hy0
      go_wp2_with fail
      refine (enc_is F ⟨HM.out.2.1, HM.out.2.2.1⟩ 6 HL.out _).mono ?_
      rintro e u2 ⟨g, c, rfl, o2, h2⟩
      have hc2 := o2.cell K hK
      have hf2 := o2.frozen K
      have hg : u1.heap.size ≤ g := by
        rcases o2.shape with ⟨e, _⟩ | ⟨g', e, hb, _, _⟩
        · cases e
        · cases e; exact hb
      rw [← HCe.out] at hc2
      clear hkb HK
      go_wp2_with fail
      have o3 := o2.bent K C y hC hy
      have h3 : Below u1.heap.size u1 (u2.setCell ⟨g, K, none⟩ (.int .u8 (bits .xor .u8 (C : Int) (y : Int)))) := h2.setCell hg _
      refine (decode_is _ _ _ _ _ o3.octs o3.cap _ HV.out).mono ?_
      rintro e u4 ⟨rfl, h4⟩
      clear HV HCe HL HM hc2 hf2 hK2
      go_wp2_with fail
      refine (known_any _).mono ?_
      rintro e u5 ⟨rfl, h5⟩
      go_wp2_with fail
      go_ret
      exact ⟨rfl, later (later (later (later h1 h3) h4) (fresh _ _)) h5⟩

set_option maxRecDepth 100000 in
theorem lifted (os : Os) (started : os.Started) (H : Type) (enc : TypeId × Value → H) :
    ReturnsInHanded {} Try.checked os 9 .any (Rows.wireBendsSpec.pre6 enc Try.prog Try.f9 Rows.wireBendsRow.domain false) (Rows.wireBendsSpec.post enc Try.prog Try.f9 false true false false) := by
  refine returnsInHanded_of_change (C := Try.checked) own started (by kernel_rfl) Try.func9
    (ChangeSpec.witness6 (enc := enc) (C := Try.checked) false ⟨#[], #[.int .u8 0, .int .u8 0, .int .u16 0, .int .u8 0, .int .u8 0, .int .u32 0, .int .u8 0, .int .u8 0], []⟩ 8 (by kernel_rfl) (by kernel_rfl) (by kernel_rfl) (by kernel_rfl)) ?_
  intro W base args ds gs before hval0 hW hcnd _
  have hval : ∀ (j : Nat) t v, Try.f9.params[j]? = some t → args[j]? = some v → Value.okWide Try.prog W .any base t v := hval0
  have hW' := hW
  obtain ⟨p, q, hA0, hV, rfl, hfz, hnd⟩ := hW
  have hA : DataW.TrodAll enc Try.prog W 0 (fun _ => true) true Try.f9.params.toList args.toList ds p := hA0
  rw [Try.params9] at hA hval
  obtain ⟨v0, vs0, d0, ds0, p0, q0, hargs, rfl, rfl, h0, r0⟩ := trodAll_cons hA
  obtain ⟨v1, vs1, d1, ds1, p1, q1, rfl, rfl, rfl, h1, r1⟩ := trodAll_cons r0
  obtain ⟨v2, vs2, d2, ds2, p2, q2, rfl, rfl, rfl, h2, r2⟩ := trodAll_cons r1
  obtain ⟨v3, vs3, d3, ds3, p3, q3, rfl, rfl, rfl, h3, r3⟩ := trodAll_cons r2
  obtain ⟨v4, vs4, d4, ds4, p4, q4, rfl, rfl, rfl, h4, r4⟩ := trodAll_cons r3
  obtain ⟨v5, vs5, d5, ds5, p5, q5, rfl, rfl, rfl, h5, r5⟩ := trodAll_cons r4
  obtain ⟨v6, vs6, d6, ds6, p6, q6, rfl, rfl, rfl, h6, r6⟩ := trodAll_cons r5
  obtain ⟨v7, vs7, d7, ds7, p7, q7, rfl, rfl, rfl, h7, r7⟩ := trodAll_cons r6
  obtain ⟨rfl, rfl, rfl⟩ := trodAll_nil r7
  obtain rfl : args = #[v0, v1, v2, v3, v4, v5, v6, v7] := by cases args; simp_all
  obtain ⟨rfl, rfl⟩ := trodVars_none hV
  obtain ⟨a0, rfl, rfl, rfl, w0⟩ := open_int Try.underlying5 (hval 0 5 v0 rfl rfl) h0
  obtain ⟨a1, rfl, rfl, rfl, w1⟩ := open_int Try.underlying5 (hval 1 5 v1 rfl rfl) h1
  obtain ⟨a2, rfl, rfl, rfl, w2⟩ := open_int Try.underlying22 (hval 2 22 v2 rfl rfl) h2
  obtain ⟨a3, rfl, rfl, rfl, w3⟩ := open_int Try.underlying5 (hval 3 5 v3 rfl rfl) h3
  obtain ⟨a4, rfl, rfl, rfl, w4⟩ := open_int Try.underlying5 (hval 4 5 v4 rfl rfl) h4
  obtain ⟨a5, rfl, rfl, rfl, w5⟩ := open_int Try.underlying23 (hval 5 23 v5 rfl rfl) h5
  obtain ⟨a6, rfl, rfl, rfl, w6⟩ := open_int Try.underlying5 (hval 6 5 v6 rfl rfl) h6
  obtain ⟨a7, rfl, rfl, rfl, w7⟩ := open_int Try.underlying5 (hval 7 5 v7 rfl rfl) h7
  clear hA0 hval0
  refine (walk a0 a1 a2 a3 a4 a5 a6 a7 w0 w1 w2 w3 w4 w5 w6 w7 W).mono fun e W' ⟨he, bel⟩ => ?_
  subst he
  exact ⟨_, rfl, _, _, _, [], _, [], hW', trodAll_mk1 (shut_bool Try.underlying4 _), (trodAll_cons_mk (shut_int Try.underlying5 w0) (trodAll_cons_mk (shut_int Try.underlying5 w1) (trodAll_cons_mk (shut_int Try.underlying22 w2) (trodAll_cons_mk (shut_int Try.underlying5 w3) (trodAll_cons_mk (shut_int Try.underlying5 w4) (trodAll_cons_mk (shut_int Try.underlying23 w5) (trodAll_cons_mk (shut_int Try.underlying5 w6) (trodAll_cons_mk (shut_int Try.underlying5 w7) trodAll_mk0)))))))), rfl, bel.frame _, fun h => by cases h⟩

theorem over : Rows.wireBendsRow.holds Try.pinned (OpenSpec.ofChange Rows.wireBendsSpec) :=
  OpenClaim.holds_of_wide 9 Try.f9 rfl rfl rfl rfl rfl rfl rfl ⟨rfl, rfl, rfl, rfl, rfl⟩ rfl rfl rfl rfl rfl (by kernel_rfl) Try.func9 (by kernel_rfl)
    (of_decide_eq_true (by kernel_rfl)) (by unfold Func.isWrapper; first | (rw [if_pos (by decide +kernel)]; kernel_rfl) | (rw [if_neg (by decide +kernel)]; exact ⟨rfl, rfl⟩))
    (fun os started H enc _ => lifted os started H enc)

theorem proved : Rows.WireBendsSaid :=
  over
#print axioms proved
end Go.Proofs.Ytmllgbgcageccaa.wireBends
