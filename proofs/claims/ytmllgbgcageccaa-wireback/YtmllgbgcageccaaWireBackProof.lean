/-
  For every choice of a frame and every byte, the law WireBack of package shunterlaw03 returns true and leaves its arguments as they were. Conditions: none.
-/
import Derived.Test.YtmllgbgcageccaaWireK
import Derived.Test.YtmllgbgcageccaaRows
import Derived.WalkKit
import Derived.ProofKit
import Derived.OpenShut
import Derived.ShutString
import Derived.ChangeOld
import Derived.Below
namespace Go.Proofs.Ytmllgbgcageccaa.wireBack
open Go.ChangeShapes Go.WideShapes Go.ChangeAt Go.RowKit
set_option linter.unusedVariables false      -- a walk need not use every 'w<i>' (that an integer argument fits its kind)

theorem own : ownKnob Try.prog.godebug = none := by kernel_rfl

set_option maxHeartbeats 1000000 in
theorem walk (a0 : Int) (a1 : Int) (a2 : Int) (a3 : Int) (a4 : Int) (a5 : Int) (a6 : Int) (w0 : (Lit.int .u8 a0).wf = true) (w1 : (Lit.int .u8 a1).wf = true) (w2 : (Lit.int .u16 a2).wf = true) (w3 : (Lit.int .u8 a3).wf = true) (w4 : (Lit.int .u8 a4).wf = true) (w5 : (Lit.int .u32 a5).wf = true) (w6 : (Lit.int .u8 a6).wf = true) (w : World) :
    Calls Try.prog 8 #[.int .u8 a0, .int .u8 a1, .int .u16 a2, .int .u8 a3, .int .u8 a4, .int .u32 a5, .int .u8 a6] w fun e w' => e = .returned (.bool true) ∧ Below w.heap.size w w' := by
  have b0 := bounds_u8 w0
  have b1 := bounds_u8 w1
  have b2 := bounds_u16 w2
  have b3 := bounds_u8 w3
  have b4 := bounds_u8 w4
  have b5 := bounds_u32 w5
  have b6 := bounds_u8 w6
  obtain ⟨k, rfl⟩ := Int.eq_ofNat_of_zero_le b0.1
  obtain ⟨l, rfl⟩ := Int.eq_ofNat_of_zero_le b1.1
  obtain ⟨s, rfl⟩ := Int.eq_ofNat_of_zero_le b2.1
  obtain ⟨a, rfl⟩ := Int.eq_ofNat_of_zero_le b3.1
  obtain ⟨b, rfl⟩ := Int.eq_ofNat_of_zero_le b4.1
  obtain ⟨x, rfl⟩ := Int.eq_ofNat_of_zero_le b5.1
  obtain ⟨y, rfl⟩ := Int.eq_ofNat_of_zero_le b6.1
  have hk : k < 256 := by omega
  have hl : l < 256 := by omega
  have hs : s < 65536 := by omega
  have ha : a < 256 := by omega
  have hb : b < 256 := by omega
  have hx : x < 4294967296 := by omega
  have hy : y < 256 := by omega
  clear w0 w1 w2 w3 w4 w5 w6 b0 b1 b2 b3 b4 b5 b6
  obtain ⟨F, hF⟩ := made k l s a b x hs hx
  have HM : Hid (mkFr k l s a b x = F ∧ F.ok ∧ F.sound = true ∧ F.s = s ∧ (F.k = 1 → F.x = x)) := hF
  clear hF
  go_enter Try.func8, Try.ntmps8
  go_wp2_with fail
  refine (make_is k l s a b x (by omega) F HM.out.1 _).mono ?_
  rintro e u1 ⟨rfl, h1⟩
  by_cases hq : F.k = 1
  · have hkb : ((F.k : Int) == 1) = true := by rw [hq]; rfl
    have HL : Hid (F.enc.length = 12) := by show _ = _; rw [Wire.enc_length, if_pos hq]
    have HK : Hid (F.k = 1) := hq
    clear hq
    have HG : Hid (decVal .u16 F.enc = .tuple #[fr F, .int .u16 0]) := good_val (k := .u16) (Wire.dec_enc HM.out.2.1 HM.out.2.2.1)
    have HN1 : Hid (decVal .u16 (F.enc.take 11) = .tuple #[.agg #[.int .u8 0, .int .u8 0, .int .u16 0, .int .u8 0, .int .u8 0, .int .u32 0], .int .u16 30]) := bad_val (k := .u16) (Wire.dec_length (Wire.oct_take (Wire.enc_oct HM.out.2.1) _) (by rw [List.length_take, HL.out]; omega) (by rw [List.length_take, HL.out]; omega))
    have oc : Crc.Oct [y] := by intro z hz; simp only [List.mem_cons, List.not_mem_nil, or_false] at hz; omega
    have HN2 : Hid (decVal .u16 (F.enc ++ [y]) = .tuple #[.agg #[.int .u8 0, .int .u8 0, .int .u16 0, .int .u8 0, .int .u8 0, .int .u32 0], .int .u16 30]) := bad_val (k := .u16) (Wire.dec_length (Wire.oct_append (Wire.enc_oct HM.out.2.1) oc) (by rw [List.length_append, HL.out, List.length_singleton]; omega) (by rw [List.length_append, HL.out, List.length_singleton]; omega))
    clear oc
    have HB : Hid (∀ w : World, Box (w.alloc (.cells #[.int .u8 F.k, .int .u8 F.l, .int .u16 F.s, .int .u8 F.a, .int .u8 F.b, .int .u32 F.x] 25)) w.heap.size F) := fun w => Box.made w F
    obtain ⟨fk, fl, fs, fa, fb, fx⟩ := F
    unfold fr at HG ⊢
    simp only at hkb HG HB ⊢
    go_wp2_with fail
    refine (enc_is ⟨fk, fl, fs, fa, fb, fx⟩ ⟨HM.out.2.1, HM.out.2.2.1⟩ 12 HL.out _).mono ?_
    rintro e u2 ⟨g, c, rfl, o2, h2⟩
    have B2 := (HB.out u1).below h2
    have hcap := o2.cap
    have hc1 : 11 ≤ c := by omega
    have hc2 : c ≤ 9223372036854775807 := by omega
    have HCp : Hid (12 ≤ c ∧ c ≤ 9223372036854775807) := hcap
    clear hcap
    go_wp2_with fail
    refine (decode_is _ _ _ _ _ o2.octs HCp.out _ HG.out).mono ?_
    rintro e u3 ⟨rfl, h3⟩
    have o3 := (o2.below h3).below (fresh _ (.cells #[.int .u8 fk, .int .u8 fl, .int .u16 fs, .int .u8 fa, .int .u8 fb, .int .u32 fx] 25))
    have B3 := (B2.below h3).below (fresh _ (.cells #[.int .u8 fk, .int .u8 fl, .int .u16 fs, .int .u8 fa, .int .u8 fb, .int .u32 fx] 25))
    have G3 := HB.out u3
    have h3' := later h3 (fresh _ (.cells #[.int .u8 fk, .int .u8 fl, .int .u16 fs, .int .u8 fa, .int .u8 fb, .int .u32 fx] 25))
    clear B2
    go_wp2_with fail
    refine (decode_is _ _ _ _ _ (o3.octs.take (n := 11) (by omega)) (by omega) _ HN1.out).mono ?_
    rintro e u4 ⟨rfl, h4⟩
    have o4 := (o3.below h4).below (fresh _ (.cells #[.int .u8 0, .int .u8 0, .int .u16 0, .int .u8 0, .int .u8 0, .int .u32 0] 25))
    have B4 := (B3.below h4).below (fresh _ (.cells #[.int .u8 0, .int .u8 0, .int .u16 0, .int .u8 0, .int .u8 0, .int .u32 0] 25))
    have G4 := (G3.below h4).below (fresh _ (.cells #[.int .u8 0, .int .u8 0, .int .u16 0, .int .u8 0, .int .u8 0, .int .u32 0] 25))
    have h4' := later h4 (fresh _ (.cells #[.int .u8 0, .int .u8 0, .int .u16 0, .int .u8 0, .int .u8 0, .int .u32 0] 25))
    clear B3 G3 o3
    go_wp2_with (first
      | (at_builtin; refine wpList_append_bytes rfl _ (.tmp 59) rfl (u4.heap.size + 1) none 0 0 [] rfl (Own.empty _ _) (some ⟨g, 0, none⟩) 12 c _ rfl o4.octs (fun h => by cases h) (by omega) (by simp) 12 (by omega) _ rfl ?_; intro a5 c5 u5 o5 h5)
      | (at_builtin; refine wpList_append_some rfl _ (.tmp 63) rfl (u4.heap.size + 1) a5 12 c5 _ rfl (o5.alloc _) _ 1 1 [y] rfl (one_is u5 _ _ rfl (by omega)) (fun h => by cases h) (by omega) (by have := h5.size; simp at this ⊢; omega) 13 (by omega) _ rfl (by omega) ?_; intro g6 c6 u6 o6 hg6 h6))
    have e4 : (u4.alloc (.cells #[.int .u8 0, .int .u8 0, .int .u16 0, .int .u8 0, .int .u8 0, .int .u32 0] 25)).heap.size = u4.heap.size + 1 := by simp
    rw [← e4] at h5 h6
    have h56 := h5.trans (((fresh _ _).mono h5.size).trans h6)
    refine (decode_is _ _ _ _ _ o6.octs o6.cap _ HN2.out).mono ?_
    rintro e u7 ⟨rfl, h7⟩
    have B7 := ((B4.below h56).below h7).below (fresh _ (.cells #[.int .u8 0, .int .u8 0, .int .u16 0, .int .u8 0, .int .u8 0, .int .u32 0] 25))
    have G7 := ((G4.below h56).below h7).below (fresh _ (.cells #[.int .u8 0, .int .u8 0, .int .u16 0, .int .u8 0, .int .u8 0, .int .u32 0] 25))
    have h7' := later h7 (fresh _ (.cells #[.int .u8 0, .int .u8 0, .int .u16 0, .int .u8 0, .int .u8 0, .int .u32 0] 25))
    have hall := later (later (later (later (later (later h1 (fresh _ _)) h2) h3') h4') h56) h7'
    clear B4 G4 o4 o5 o6 e4 h2 h3 h3' h4 h4' h5 h6 h56 h7 hc1 hc2
    go_wp2_with fail
    refine (known_any _).mono ?_
    rintro e u8 ⟨rfl, h8⟩
    have B8 := B7.below h8
    have G8 := G7.below h8
    obtain ⟨f0, f1, f2, f3, f4, f5⟩ := id B8
    clear B7 G7
    go_wp2_with fail
    refine (sound_is ⟨fk, fl, fs, fa, fb, fx⟩ HM.out.2.1 true HM.out.2.2.1 _).mono ?_
    rintro e u9 ⟨rfl, h9⟩
    clear f0 f1 f2 f3 f4 f5
    obtain ⟨f0, f1, f2, f3, f4, f5⟩ := B8.below h9
    obtain ⟨g0, g1, g2, g3, g4, g5⟩ := G8.below h9
    clear B8 G8
    go_wp2_with fail
    go_ret
    exact ⟨rfl, later (later hall h8) h9⟩
  · have hkb : ((F.k : Int) == 1) = false := by simp; omega
    have HL : Hid (F.enc.length = 6) := by show _ = _; rw [Wire.enc_length, if_neg hq]
    have HK : Hid (F.k ≠ 1) := hq
    clear hq
    have HG : Hid (decVal .u16 F.enc = .tuple #[fr F, .int .u16 0]) := good_val (k := .u16) (Wire.dec_enc HM.out.2.1 HM.out.2.2.1)
    have HN1 : Hid (decVal .u16 (F.enc.take 5) = .tuple #[.agg #[.int .u8 0, .int .u8 0, .int .u16 0, .int .u8 0, .int .u8 0, .int .u32 0], .int .u16 30]) := bad_val (k := .u16) (Wire.dec_length (Wire.oct_take (Wire.enc_oct HM.out.2.1) _) (by rw [List.length_take, HL.out]; omega) (by rw [List.length_take, HL.out]; omega))
    have oc : Crc.Oct [y] := by intro z hz; simp only [List.mem_cons, List.not_mem_nil, or_false] at hz; omega
    have HN2 : Hid (decVal .u16 (F.enc ++ [y]) = .tuple #[.agg #[.int .u8 0, .int .u8 0, .int .u16 0, .int .u8 0, .int .u8 0, .int .u32 0], .int .u16 30]) := bad_val (k := .u16) (Wire.dec_length (Wire.oct_append (Wire.enc_oct HM.out.2.1) oc) (by rw [List.length_append, HL.out, List.length_singleton]; omega) (by rw [List.length_append, HL.out, List.length_singleton]; omega))
    clear oc
    have HB : Hid (∀ w : World, Box (w.alloc (.cells #[.int .u8 F.k, .int .u8 F.l, .int .u16 F.s, .int .u8 F.a, .int .u8 F.b, .int .u32 F.x] 25)) w.heap.size F) := fun w => Box.made w F
    obtain ⟨fk, fl, fs, fa, fb, fx⟩ := F
    unfold fr at HG ⊢
    simp only at hkb HG HB ⊢
    go_wp2_with fail
    refine (enc_is ⟨fk, fl, fs, fa, fb, fx⟩ ⟨HM.out.2.1, HM.out.2.2.1⟩ 6 HL.out _).mono ?_
    rintro e u2 ⟨g, c, rfl, o2, h2⟩
    have B2 := (HB.out u1).below h2
    have hcap := o2.cap
    have hc1 : 5 ≤ c := by omega
    have hc2 : c ≤ 9223372036854775807 := by omega
    have HCp : Hid (6 ≤ c ∧ c ≤ 9223372036854775807) := hcap
    clear hcap
    go_wp2_with fail
    refine (decode_is _ _ _ _ _ o2.octs HCp.out _ HG.out).mono ?_
    rintro e u3 ⟨rfl, h3⟩
    have o3 := (o2.below h3).below (fresh _ (.cells #[.int .u8 fk, .int .u8 fl, .int .u16 fs, .int .u8 fa, .int .u8 fb, .int .u32 fx] 25))
    have B3 := (B2.below h3).below (fresh _ (.cells #[.int .u8 fk, .int .u8 fl, .int .u16 fs, .int .u8 fa, .int .u8 fb, .int .u32 fx] 25))
    have G3 := HB.out u3
    have h3' := later h3 (fresh _ (.cells #[.int .u8 fk, .int .u8 fl, .int .u16 fs, .int .u8 fa, .int .u8 fb, .int .u32 fx] 25))
    clear B2
    go_wp2_with fail
    refine (decode_is _ _ _ _ _ (o3.octs.take (n := 5) (by omega)) (by omega) _ HN1.out).mono ?_
    rintro e u4 ⟨rfl, h4⟩
    have o4 := (o3.below h4).below (fresh _ (.cells #[.int .u8 0, .int .u8 0, .int .u16 0, .int .u8 0, .int .u8 0, .int .u32 0] 25))
    have B4 := (B3.below h4).below (fresh _ (.cells #[.int .u8 0, .int .u8 0, .int .u16 0, .int .u8 0, .int .u8 0, .int .u32 0] 25))
    have G4 := (G3.below h4).below (fresh _ (.cells #[.int .u8 0, .int .u8 0, .int .u16 0, .int .u8 0, .int .u8 0, .int .u32 0] 25))
    have h4' := later h4 (fresh _ (.cells #[.int .u8 0, .int .u8 0, .int .u16 0, .int .u8 0, .int .u8 0, .int .u32 0] 25))
    clear B3 G3 o3
    go_wp2_with (first
      | (at_builtin; refine wpList_append_bytes rfl _ (.tmp 59) rfl (u4.heap.size + 1) none 0 0 [] rfl (Own.empty _ _) (some ⟨g, 0, none⟩) 6 c _ rfl o4.octs (fun h => by cases h) (by omega) (by simp) 6 (by omega) _ rfl ?_; intro a5 c5 u5 o5 h5)
      | (at_builtin; refine wpList_append_some rfl _ (.tmp 63) rfl (u4.heap.size + 1) a5 6 c5 _ rfl (o5.alloc _) _ 1 1 [y] rfl (one_is u5 _ _ rfl (by omega)) (fun h => by cases h) (by omega) (by have := h5.size; simp at this ⊢; omega) 7 (by omega) _ rfl (by omega) ?_; intro g6 c6 u6 o6 hg6 h6))
    have e4 : (u4.alloc (.cells #[.int .u8 0, .int .u8 0, .int .u16 0, .int .u8 0, .int .u8 0, .int .u32 0] 25)).heap.size = u4.heap.size + 1 := by simp
    rw [← e4] at h5 h6
    have h56 := h5.trans (((fresh _ _).mono h5.size).trans h6)
    refine (decode_is _ _ _ _ _ o6.octs o6.cap _ HN2.out).mono ?_
    rintro e u7 ⟨rfl, h7⟩
    have B7 := ((B4.below h56).below h7).below (fresh _ (.cells #[.int .u8 0, .int .u8 0, .int .u16 0, .int .u8 0, .int .u8 0, .int .u32 0] 25))
    have G7 := ((G4.below h56).below h7).below (fresh _ (.cells #[.int .u8 0, .int .u8 0, .int .u16 0, .int .u8 0, .int .u8 0, .int .u32 0] 25))
    have h7' := later h7 (fresh _ (.cells #[.int .u8 0, .int .u8 0, .int .u16 0, .int .u8 0, .int .u8 0, .int .u32 0] 25))
    have hall := later (later (later (later (later (later h1 (fresh _ _)) h2) h3') h4') h56) h7'
    clear B4 G4 o4 o5 o6 e4 h2 h3 h3' h4 h4' h5 h6 h56 h7 hc1 hc2
    go_wp2_with fail
    refine (known_any _).mono ?_
    rintro e u8 ⟨rfl, h8⟩
    have B8 := B7.below h8
    have G8 := G7.below h8
    obtain ⟨f0, f1, f2, f3, f4, f5⟩ := id B8
    clear B7 G7
    go_wp2_with fail
    refine (sound_is ⟨fk, fl, fs, fa, fb, fx⟩ HM.out.2.1 true HM.out.2.2.1 _).mono ?_
    rintro e u9 ⟨rfl, h9⟩
    clear f0 f1 f2 f3 f4 f5
    obtain ⟨f0, f1, f2, f3, f4, f5⟩ := B8.below h9
    obtain ⟨g0, g1, g2, g3, g4, g5⟩ := G8.below h9
    clear B8 G8
    go_wp2_with fail
    go_ret
    exact ⟨rfl, later (later hall h8) h9⟩

set_option maxRecDepth 100000 in
theorem lifted (os : Os) (started : os.Started) (H : Type) (enc : TypeId × Value → H) :
    ReturnsInHanded {} Try.checked os 8 .any (Rows.wireBackSpec.pre6 enc Try.prog Try.f8 Rows.wireBackRow.domain false) (Rows.wireBackSpec.post enc Try.prog Try.f8 false true false false) := by
  refine returnsInHanded_of_change (C := Try.checked) own started (by kernel_rfl) Try.func8
    (ChangeSpec.witness6 (enc := enc) (C := Try.checked) false ⟨#[], #[.int .u8 0, .int .u8 0, .int .u16 0, .int .u8 0, .int .u8 0, .int .u32 0, .int .u8 0], []⟩ 8 (by kernel_rfl) (by kernel_rfl) (by kernel_rfl) (by kernel_rfl)) ?_
  intro W base args ds gs before hval0 hW hcnd _
  have hval : ∀ (j : Nat) t v, Try.f8.params[j]? = some t → args[j]? = some v → Value.okWide Try.prog W .any base t v := hval0
  have hW' := hW
  obtain ⟨p, q, hA0, hV, rfl, hfz, hnd⟩ := hW
  have hA : DataW.TrodAll enc Try.prog W 0 (fun _ => true) true Try.f8.params.toList args.toList ds p := hA0
  rw [Try.params8] at hA hval
  obtain ⟨v0, vs0, d0, ds0, p0, q0, hargs, rfl, rfl, h0, r0⟩ := trodAll_cons hA
  obtain ⟨v1, vs1, d1, ds1, p1, q1, rfl, rfl, rfl, h1, r1⟩ := trodAll_cons r0
  obtain ⟨v2, vs2, d2, ds2, p2, q2, rfl, rfl, rfl, h2, r2⟩ := trodAll_cons r1
  obtain ⟨v3, vs3, d3, ds3, p3, q3, rfl, rfl, rfl, h3, r3⟩ := trodAll_cons r2
  obtain ⟨v4, vs4, d4, ds4, p4, q4, rfl, rfl, rfl, h4, r4⟩ := trodAll_cons r3
  obtain ⟨v5, vs5, d5, ds5, p5, q5, rfl, rfl, rfl, h5, r5⟩ := trodAll_cons r4
  obtain ⟨v6, vs6, d6, ds6, p6, q6, rfl, rfl, rfl, h6, r6⟩ := trodAll_cons r5
  obtain ⟨rfl, rfl, rfl⟩ := trodAll_nil r6
  obtain rfl : args = #[v0, v1, v2, v3, v4, v5, v6] := by cases args; simp_all
  obtain ⟨rfl, rfl⟩ := trodVars_none hV
  obtain ⟨a0, rfl, rfl, rfl, w0⟩ := open_int Try.underlying5 (hval 0 5 v0 rfl rfl) h0
  obtain ⟨a1, rfl, rfl, rfl, w1⟩ := open_int Try.underlying5 (hval 1 5 v1 rfl rfl) h1
  obtain ⟨a2, rfl, rfl, rfl, w2⟩ := open_int Try.underlying22 (hval 2 22 v2 rfl rfl) h2
  obtain ⟨a3, rfl, rfl, rfl, w3⟩ := open_int Try.underlying5 (hval 3 5 v3 rfl rfl) h3
  obtain ⟨a4, rfl, rfl, rfl, w4⟩ := open_int Try.underlying5 (hval 4 5 v4 rfl rfl) h4
  obtain ⟨a5, rfl, rfl, rfl, w5⟩ := open_int Try.underlying23 (hval 5 23 v5 rfl rfl) h5
  obtain ⟨a6, rfl, rfl, rfl, w6⟩ := open_int Try.underlying5 (hval 6 5 v6 rfl rfl) h6
  clear hA0 hval0
  refine (walk a0 a1 a2 a3 a4 a5 a6 w0 w1 w2 w3 w4 w5 w6 W).mono fun e W' ⟨he, bel⟩ => ?_
  subst he
  exact ⟨_, rfl, _, _, _, [], _, [], hW', trodAll_mk1 (shut_bool Try.underlying4 _), (trodAll_cons_mk (shut_int Try.underlying5 w0) (trodAll_cons_mk (shut_int Try.underlying5 w1) (trodAll_cons_mk (shut_int Try.underlying22 w2) (trodAll_cons_mk (shut_int Try.underlying5 w3) (trodAll_cons_mk (shut_int Try.underlying5 w4) (trodAll_cons_mk (shut_int Try.underlying23 w5) (trodAll_cons_mk (shut_int Try.underlying5 w6) trodAll_mk0))))))), rfl, bel.frame _, fun h => by cases h⟩

theorem over : Rows.wireBackRow.holds Try.pinned (OpenSpec.ofChange Rows.wireBackSpec) :=
  OpenClaim.holds_of_wide 8 Try.f8 rfl rfl rfl rfl rfl rfl rfl ⟨rfl, rfl, rfl, rfl, rfl⟩ rfl rfl rfl rfl rfl (by kernel_rfl) Try.func8 (by kernel_rfl)
    (of_decide_eq_true (by kernel_rfl)) (by unfold Func.isWrapper; first | (rw [if_pos (by decide +kernel)]; kernel_rfl) | (rw [if_neg (by decide +kernel)]; exact ⟨rfl, rfl⟩))
    (fun os started H enc _ => lifted os started H enc)

theorem proved : Rows.WireBackSaid :=
  over
#print axioms proved
end Go.Proofs.Ytmllgbgcageccaa.wireBack
