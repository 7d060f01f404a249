/-
  For every eight numbers, the law WireApart of package shunterlaw03 returns true and leaves its arguments as they were. Conditions: none.
-/
import Derived.Test.YtmllgbgcageccaaWireK
import Derived.Test.YtmllgbgcageccaaRows
import Derived.WalkKit
import Derived.ProofKit
import Derived.OpenShut
import Derived.ShutString
import Derived.ChangeOld
import Derived.Below
namespace Go.Proofs.Ytmllgbgcageccaa.wireApart
open Go.ChangeShapes Go.WideShapes Go.ChangeAt Go.RowKit
set_option linter.unusedVariables false      -- a walk need not use every 'w<i>' (that an integer argument fits its kind)

theorem own : ownKnob Try.prog.godebug = none := by kernel_rfl

set_option maxHeartbeats 1000000 in
theorem walk (a0 : Int) (a1 : Int) (a2 : Int) (a3 : Int) (a4 : Int) (a5 : Int) (a6 : Int) (a7 : Int) (w0 : (Lit.int .u8 a0).wf = true) (w1 : (Lit.int .u8 a1).wf = true) (w2 : (Lit.int .u8 a2).wf = true) (w3 : (Lit.int .u8 a3).wf = true) (w4 : (Lit.int .u16 a4).wf = true) (w5 : (Lit.int .u16 a5).wf = true) (w6 : (Lit.int .u32 a6).wf = true) (w7 : (Lit.int .u32 a7).wf = true) (w : World) :
    Calls Try.prog 3 #[.int .u8 a0, .int .u8 a1, .int .u8 a2, .int .u8 a3, .int .u16 a4, .int .u16 a5, .int .u32 a6, .int .u32 a7] w fun e w' => e = .returned (.bool true) ∧ Below w.heap.size w w' := by
  have b0 := bounds_u8 w0
  have b1 := bounds_u8 w1
  have b2 := bounds_u8 w2
  have b3 := bounds_u8 w3
  have b4 := bounds_u16 w4
  have b5 := bounds_u16 w5
  have b6 := bounds_u32 w6
  have b7 := bounds_u32 w7
  obtain ⟨a, rfl⟩ := Int.eq_ofNat_of_zero_le b0.1
  obtain ⟨b, rfl⟩ := Int.eq_ofNat_of_zero_le b1.1
  obtain ⟨c, rfl⟩ := Int.eq_ofNat_of_zero_le b2.1
  obtain ⟨d, rfl⟩ := Int.eq_ofNat_of_zero_le b3.1
  obtain ⟨s, rfl⟩ := Int.eq_ofNat_of_zero_le b4.1
  obtain ⟨t, rfl⟩ := Int.eq_ofNat_of_zero_le b5.1
  obtain ⟨x, rfl⟩ := Int.eq_ofNat_of_zero_le b6.1
  obtain ⟨y, rfl⟩ := Int.eq_ofNat_of_zero_le b7.1
  have ha : a < 256 := by omega
  have hb : b < 256 := by omega
  have hc : c < 256 := by omega
  have hd : d < 256 := by omega
  have hs : s < 65536 := by omega
  have ht : t < 65536 := by omega
  have hx : x < 4294967296 := by omega
  have hy : y < 4294967296 := by omega
  clear w0 w1 w2 w3 w4 w5 w6 w7 b0 b1 b2 b3 b4 b5 b6 b7
  obtain ⟨F, hF⟩ := made a b s c d x hs hx
  obtain ⟨G, hG⟩ := made c d t a b y ht hy
  have HM : Hid (mkFr a b s c d x = F ∧ F.ok ∧ F.sound = true) := ⟨hF.1, hF.2.1, hF.2.2.1⟩
  have HN : Hid (mkFr c d t a b y = G ∧ G.ok ∧ G.sound = true) := ⟨hG.1, hG.2.1, hG.2.2.1⟩
  clear hF hG
  have HB : Hid (∀ (f : Wire.Fr) (w : World), Box (w.alloc (.cells #[.int .u8 f.k, .int .u8 f.l, .int .u16 f.s, .int .u8 f.a, .int .u8 f.b, .int .u32 f.x] 25)) w.heap.size f) := fun f w => Box.made w f
  by_cases hfg : F = G
  · subst hfg
    obtain ⟨fk, fl, fs, fa, fb, fx⟩ := F
    obtain ⟨n1, hn1⟩ : ∃ n, (⟨fk, fl, fs, fa, fb, fx⟩ : Wire.Fr).enc.length = n := ⟨_, rfl⟩
    obtain ⟨S1, hS1⟩ : ∃ S, strOf (⟨fk, fl, fs, fa, fb, fx⟩ : Wire.Fr).enc = S := ⟨_, rfl⟩
    have HL : Hid ((⟨fk, fl, fs, fa, fb, fx⟩ : Wire.Fr).enc.length = n1 ∧ strOf (⟨fk, fl, fs, fa, fb, fx⟩ : Wire.Fr).enc = S1) := ⟨hn1, hS1⟩
    have HL2 : Hid ((⟨fk, fl, fs, fa, fb, fx⟩ : Wire.Fr).enc.length = n1 ∧ strOf (⟨fk, fl, fs, fa, fb, fx⟩ : Wire.Fr).enc = S1) := ⟨hn1, hS1⟩
    clear hn1 hS1
    go_enter Try.func3, Try.ntmps3
    go_wp2_with fail
    refine (make_is a b s c d x (by omega) _ HM.out.1 _).mono ?_
    rintro e u1 ⟨rfl, h1⟩
    unfold fr
    simp only
    go_wp2_with fail
    refine (make_is c d t a b y (by omega) _ HN.out.1 _).mono ?_
    rintro e u2 ⟨rfl, h2⟩
    unfold fr
    simp only
    obtain ⟨q0, q1, q2, q3, q4, q5⟩ := (HB.out ⟨fk, fl, fs, fa, fb, fx⟩ u1).below h2
    have B2 := ((HB.out ⟨fk, fl, fs, fa, fb, fx⟩ u1).below h2).below (fresh _ (.cells #[.int .u8 fk, .int .u8 fl, .int .u16 fs, .int .u8 fa, .int .u8 fb, .int .u32 fx] 25))
    have G2 := HB.out ⟨fk, fl, fs, fa, fb, fx⟩ u2
    have h2' := later h2 (fresh _ (.cells #[.int .u8 fk, .int .u8 fl, .int .u16 fs, .int .u8 fa, .int .u8 fb, .int .u32 fx] 25))
    have hz : u1.heap.size < u2.heap.size := by have := h2.size; simp at this; omega
    have hzn : ¬ u1.heap.size = u2.heap.size := by omega
    go_wp2_with fail
    refine (enc_is ⟨fk, fl, fs, fa, fb, fx⟩ ⟨HM.out.2.1, HM.out.2.2⟩ n1 HL.out.1 _).mono ?_
    rintro e u3 ⟨g3, c3, rfl, o3, h3⟩
    have B3 := B2.below h3
    have G3 := G2.below h3
    clear q0 q1 q2 q3 q4 q5 B2 G2
    obtain ⟨p0, p1, p2, p3, p4, p5⟩ := id B3
    obtain ⟨q0, q1, q2, q3, q4, q5⟩ := id G3
    go_wp2_with fail
    refine (enc_is ⟨fk, fl, fs, fa, fb, fx⟩ ⟨HN.out.2.1, HN.out.2.2⟩ n1 HL2.out.1 _).mono ?_
    rintro e u4 ⟨g4, c4, rfl, o4, h4⟩
    have B4 := B3.below h4
    have G4 := G3.below h4
    clear p0 p1 p2 p3 p4 p5 q0 q1 q2 q3 q4 q5 B3 G3
    have k1 := str_run (cap := c3) ((o3.below h4).octs.below (drew_below u4))
    have k2 := str_run (cap := c4) (o4.octs.below (drew_below u4))
    rw [HL.out.2] at k1
    rw [HL2.out.2] at k2
    obtain ⟨p0, p1, p2, p3, p4, p5⟩ := id B4
    obtain ⟨q0, q1, q2, q3, q4, q5⟩ := id G4
    simp only at p0 p1 p2 p3 p4 p5 q0 q1 q2 q3 q4 q5
    go_wp2_with fail
    go_region_held3 (fun w' => w'.cell? ⟨u1.heap.size, 0, none⟩ = some (.int .u8 (fk : Nat)) ∧ w'.cell? ⟨u1.heap.size, 1, none⟩ = some (.int .u8 (fl : Nat)) ∧ w'.cell? ⟨u1.heap.size, 2, none⟩ = some (.int .u16 (fs : Nat)) ∧ w'.cell? ⟨u1.heap.size, 3, none⟩ = some (.int .u8 (fa : Nat)) ∧ w'.cell? ⟨u1.heap.size, 4, none⟩ = some (.int .u8 (fb : Nat)) ∧ w'.cell? ⟨u1.heap.size, 5, none⟩ = some (.int .u32 (fx : Nat)) ∧ w'.cell? ⟨u2.heap.size, 0, none⟩ = some (.int .u8 (fk : Nat)) ∧ w'.cell? ⟨u2.heap.size, 1, none⟩ = some (.int .u8 (fl : Nat)) ∧ w'.cell? ⟨u2.heap.size, 2, none⟩ = some (.int .u16 (fs : Nat)) ∧ w'.cell? ⟨u2.heap.size, 3, none⟩ = some (.int .u8 (fa : Nat)) ∧ w'.cell? ⟨u2.heap.size, 4, none⟩ = some (.int .u8 (fb : Nat)) ∧ w'.cell? ⟨u2.heap.size, 5, none⟩ = some (.int .u32 (fx : Nat)) ∧ (convert 27 9 (.slice (some ⟨g3, 0, none⟩) n1 c3)).run Try.prog w' = .ok (.string S1) w' ∧ (convert 27 9 (.slice (some ⟨g4, 0, none⟩) n1 c4)).run Try.prog w' = .ok (.string S1) w') (first | go_keep) (first | (go_at_call 15; refine (known_any _).mono ?_; rintro e u5 ⟨rfl, h5⟩; obtain ⟨r0, r1, r2, r3, r4, r5⟩ := (B4.below (drew_below u4)).below h5; obtain ⟨v0, v1, v2, v3, v4, v5⟩ := (G4.below (drew_below u4)).below h5; have k3 := str_run (cap := c3) (((o3.below h4).octs.below (drew_below u4)).below h5); have k4 := str_run (cap := c4) ((o4.octs.below (drew_below u4)).below h5); rw [HL.out.2] at k3; rw [HL2.out.2] at k4))
    go_wp2_with fail
    go_ret
    exact ⟨rfl, later (later (later (later (later (later h1 (fresh _ _)) h2') h3) h4) (drew_below u4)) h5⟩
  · obtain ⟨fk, fl, fs, fa, fb, fx⟩ := F
    obtain ⟨gk, gl, gs, ga, gb, gx⟩ := G
    by_cases e0 : fk = gk
    · subst e0
      by_cases e1 : fl = gl
      · subst e1
        by_cases e2 : fs = gs
        · subst e2
          by_cases e3 : fa = ga
          · subst e3
            by_cases e4 : fb = gb
            · subst e4
              by_cases e5 : fx = gx
              · subst e5
                exact absurd rfl hfg
              · have hne : ((fx : Int) == (gx : Int)) = false := by simp; omega
                obtain ⟨n1, hn1⟩ : ∃ n, (⟨fk, fl, fs, fa, fb, fx⟩ : Wire.Fr).enc.length = n := ⟨_, rfl⟩
                obtain ⟨S1, hS1⟩ : ∃ S, strOf (⟨fk, fl, fs, fa, fb, fx⟩ : Wire.Fr).enc = S := ⟨_, rfl⟩
                obtain ⟨n2, hn2⟩ : ∃ n, (⟨fk, fl, fs, fa, fb, gx⟩ : Wire.Fr).enc.length = n := ⟨_, rfl⟩
                obtain ⟨S2, hS2⟩ : ∃ S, strOf (⟨fk, fl, fs, fa, fb, gx⟩ : Wire.Fr).enc = S := ⟨_, rfl⟩
                have HL : Hid ((⟨fk, fl, fs, fa, fb, fx⟩ : Wire.Fr).enc.length = n1 ∧ strOf (⟨fk, fl, fs, fa, fb, fx⟩ : Wire.Fr).enc = S1) := ⟨hn1, hS1⟩
                have HL2 : Hid ((⟨fk, fl, fs, fa, fb, gx⟩ : Wire.Fr).enc.length = n2 ∧ strOf (⟨fk, fl, fs, fa, fb, gx⟩ : Wire.Fr).enc = S2) := ⟨hn2, hS2⟩
                have hstr : (S1.toList == S2.toList) = false := by
                  rw [← hS1, ← hS2, str_beq (Wire.enc_oct HM.out.2.1) (Wire.enc_oct HN.out.2.1), decide_eq_false_iff_not]
                  intro e
                  exact hfg (Wire.enc_inj HM.out.2.1 HN.out.2.1 HM.out.2.2 HN.out.2.2 e)
                clear hn1 hS1 hn2 hS2 hfg
                go_enter Try.func3, Try.ntmps3
                go_wp2_with fail
                refine (make_is a b s c d x (by omega) _ HM.out.1 _).mono ?_
                rintro e u1 ⟨rfl, h1⟩
                unfold fr
                simp only
                go_wp2_with fail
                refine (make_is c d t a b y (by omega) _ HN.out.1 _).mono ?_
                rintro e u2 ⟨rfl, h2⟩
                unfold fr
                simp only
                obtain ⟨q0, q1, q2, q3, q4, q5⟩ := (HB.out ⟨fk, fl, fs, fa, fb, fx⟩ u1).below h2
                have B2 := ((HB.out ⟨fk, fl, fs, fa, fb, fx⟩ u1).below h2).below (fresh _ (.cells #[.int .u8 fk, .int .u8 fl, .int .u16 fs, .int .u8 fa, .int .u8 fb, .int .u32 gx] 25))
                have G2 := HB.out ⟨fk, fl, fs, fa, fb, gx⟩ u2
                have h2' := later h2 (fresh _ (.cells #[.int .u8 fk, .int .u8 fl, .int .u16 fs, .int .u8 fa, .int .u8 fb, .int .u32 gx] 25))
                have hz : u1.heap.size < u2.heap.size := by have := h2.size; simp at this; omega
                have hzn : ¬ u1.heap.size = u2.heap.size := by omega
                go_wp2_with fail
                refine (enc_is ⟨fk, fl, fs, fa, fb, fx⟩ ⟨HM.out.2.1, HM.out.2.2⟩ n1 HL.out.1 _).mono ?_
                rintro e u3 ⟨g3, c3, rfl, o3, h3⟩
                have B3 := B2.below h3
                have G3 := G2.below h3
                clear q0 q1 q2 q3 q4 q5 B2 G2
                obtain ⟨p0, p1, p2, p3, p4, p5⟩ := id B3
                obtain ⟨q0, q1, q2, q3, q4, q5⟩ := id G3
                go_wp2_with fail
                refine (enc_is ⟨fk, fl, fs, fa, fb, gx⟩ ⟨HN.out.2.1, HN.out.2.2⟩ n2 HL2.out.1 _).mono ?_
                rintro e u4 ⟨g4, c4, rfl, o4, h4⟩
                have B4 := B3.below h4
                have G4 := G3.below h4
                clear p0 p1 p2 p3 p4 p5 q0 q1 q2 q3 q4 q5 B3 G3
                have k1 := str_run (cap := c3) ((o3.below h4).octs.below (drew_below u4))
                have k2 := str_run (cap := c4) (o4.octs.below (drew_below u4))
                rw [HL.out.2] at k1
                rw [HL2.out.2] at k2
                obtain ⟨p0, p1, p2, p3, p4, p5⟩ := id B4
                obtain ⟨q0, q1, q2, q3, q4, q5⟩ := id G4
                simp only at p0 p1 p2 p3 p4 p5 q0 q1 q2 q3 q4 q5
                go_wp2_with fail
                go_region_held3 (fun w' => w'.cell? ⟨u1.heap.size, 0, none⟩ = some (.int .u8 (fk : Nat)) ∧ w'.cell? ⟨u1.heap.size, 1, none⟩ = some (.int .u8 (fl : Nat)) ∧ w'.cell? ⟨u1.heap.size, 2, none⟩ = some (.int .u16 (fs : Nat)) ∧ w'.cell? ⟨u1.heap.size, 3, none⟩ = some (.int .u8 (fa : Nat)) ∧ w'.cell? ⟨u1.heap.size, 4, none⟩ = some (.int .u8 (fb : Nat)) ∧ w'.cell? ⟨u1.heap.size, 5, none⟩ = some (.int .u32 (fx : Nat)) ∧ w'.cell? ⟨u2.heap.size, 0, none⟩ = some (.int .u8 (fk : Nat)) ∧ w'.cell? ⟨u2.heap.size, 1, none⟩ = some (.int .u8 (fl : Nat)) ∧ w'.cell? ⟨u2.heap.size, 2, none⟩ = some (.int .u16 (fs : Nat)) ∧ w'.cell? ⟨u2.heap.size, 3, none⟩ = some (.int .u8 (fa : Nat)) ∧ w'.cell? ⟨u2.heap.size, 4, none⟩ = some (.int .u8 (fb : Nat)) ∧ w'.cell? ⟨u2.heap.size, 5, none⟩ = some (.int .u32 (gx : Nat)) ∧ (convert 27 9 (.slice (some ⟨g3, 0, none⟩) n1 c3)).run Try.prog w' = .ok (.string S1) w' ∧ (convert 27 9 (.slice (some ⟨g4, 0, none⟩) n2 c4)).run Try.prog w' = .ok (.string S2) w') (first | go_keep) (first | (go_at_call 15; refine (known_any _).mono ?_; rintro e u5 ⟨rfl, h5⟩; obtain ⟨r0, r1, r2, r3, r4, r5⟩ := (B4.below (drew_below u4)).below h5; obtain ⟨v0, v1, v2, v3, v4, v5⟩ := (G4.below (drew_below u4)).below h5; have k3 := str_run (cap := c3) (((o3.below h4).octs.below (drew_below u4)).below h5); have k4 := str_run (cap := c4) ((o4.octs.below (drew_below u4)).below h5); rw [HL.out.2] at k3; rw [HL2.out.2] at k4))
                go_wp2_with fail
                go_ret
                exact ⟨rfl, later (later (later (later (later (later h1 (fresh _ _)) h2') h3) h4) (drew_below u4)) h5⟩
            · have hne : ((fb : Int) == (gb : Int)) = false := by simp; omega
              obtain ⟨n1, hn1⟩ : ∃ n, (⟨fk, fl, fs, fa, fb, fx⟩ : Wire.Fr).enc.length = n := ⟨_, rfl⟩
              obtain ⟨S1, hS1⟩ : ∃ S, strOf (⟨fk, fl, fs, fa, fb, fx⟩ : Wire.Fr).enc = S := ⟨_, rfl⟩
              obtain ⟨n2, hn2⟩ : ∃ n, (⟨fk, fl, fs, fa, gb, gx⟩ : Wire.Fr).enc.length = n := ⟨_, rfl⟩
              obtain ⟨S2, hS2⟩ : ∃ S, strOf (⟨fk, fl, fs, fa, gb, gx⟩ : Wire.Fr).enc = S := ⟨_, rfl⟩
              have HL : Hid ((⟨fk, fl, fs, fa, fb, fx⟩ : Wire.Fr).enc.length = n1 ∧ strOf (⟨fk, fl, fs, fa, fb, fx⟩ : Wire.Fr).enc = S1) := ⟨hn1, hS1⟩
              have HL2 : Hid ((⟨fk, fl, fs, fa, gb, gx⟩ : Wire.Fr).enc.length = n2 ∧ strOf (⟨fk, fl, fs, fa, gb, gx⟩ : Wire.Fr).enc = S2) := ⟨hn2, hS2⟩
              have hstr : (S1.toList == S2.toList) = false := by
                rw [← hS1, ← hS2, str_beq (Wire.enc_oct HM.out.2.1) (Wire.enc_oct HN.out.2.1), decide_eq_false_iff_not]
                intro e
                exact hfg (Wire.enc_inj HM.out.2.1 HN.out.2.1 HM.out.2.2 HN.out.2.2 e)
              clear hn1 hS1 hn2 hS2 hfg
              go_enter Try.func3, Try.ntmps3
              go_wp2_with fail
              refine (make_is a b s c d x (by omega) _ HM.out.1 _).mono ?_
              rintro e u1 ⟨rfl, h1⟩
              unfold fr
              simp only
              go_wp2_with fail
              refine (make_is c d t a b y (by omega) _ HN.out.1 _).mono ?_
              rintro e u2 ⟨rfl, h2⟩
              unfold fr
              simp only
              obtain ⟨q0, q1, q2, q3, q4, q5⟩ := (HB.out ⟨fk, fl, fs, fa, fb, fx⟩ u1).below h2
              have B2 := ((HB.out ⟨fk, fl, fs, fa, fb, fx⟩ u1).below h2).below (fresh _ (.cells #[.int .u8 fk, .int .u8 fl, .int .u16 fs, .int .u8 fa, .int .u8 gb, .int .u32 gx] 25))
              have G2 := HB.out ⟨fk, fl, fs, fa, gb, gx⟩ u2
              have h2' := later h2 (fresh _ (.cells #[.int .u8 fk, .int .u8 fl, .int .u16 fs, .int .u8 fa, .int .u8 gb, .int .u32 gx] 25))
              have hz : u1.heap.size < u2.heap.size := by have := h2.size; simp at this; omega
              have hzn : ¬ u1.heap.size = u2.heap.size := by omega
              go_wp2_with fail
              refine (enc_is ⟨fk, fl, fs, fa, fb, fx⟩ ⟨HM.out.2.1, HM.out.2.2⟩ n1 HL.out.1 _).mono ?_
              rintro e u3 ⟨g3, c3, rfl, o3, h3⟩
              have B3 := B2.below h3
              have G3 := G2.below h3
              clear q0 q1 q2 q3 q4 q5 B2 G2
              obtain ⟨p0, p1, p2, p3, p4, p5⟩ := id B3
              obtain ⟨q0, q1, q2, q3, q4, q5⟩ := id G3
              go_wp2_with fail
              refine (enc_is ⟨fk, fl, fs, fa, gb, gx⟩ ⟨HN.out.2.1, HN.out.2.2⟩ n2 HL2.out.1 _).mono ?_
              rintro e u4 ⟨g4, c4, rfl, o4, h4⟩
              have B4 := B3.below h4
              have G4 := G3.below h4
              clear p0 p1 p2 p3 p4 p5 q0 q1 q2 q3 q4 q5 B3 G3
              have k1 := str_run (cap := c3) ((o3.below h4).octs.below (drew_below u4))
              have k2 := str_run (cap := c4) (o4.octs.below (drew_below u4))
              rw [HL.out.2] at k1
              rw [HL2.out.2] at k2
              obtain ⟨p0, p1, p2, p3, p4, p5⟩ := id B4
              obtain ⟨q0, q1, q2, q3, q4, q5⟩ := id G4
              simp only at p0 p1 p2 p3 p4 p5 q0 q1 q2 q3 q4 q5
              go_wp2_with fail
              go_region_held3 (fun w' => w'.cell? ⟨u1.heap.size, 0, none⟩ = some (.int .u8 (fk : Nat)) ∧ w'.cell? ⟨u1.heap.size, 1, none⟩ = some (.int .u8 (fl : Nat)) ∧ w'.cell? ⟨u1.heap.size, 2, none⟩ = some (.int .u16 (fs : Nat)) ∧ w'.cell? ⟨u1.heap.size, 3, none⟩ = some (.int .u8 (fa : Nat)) ∧ w'.cell? ⟨u1.heap.size, 4, none⟩ = some (.int .u8 (fb : Nat)) ∧ w'.cell? ⟨u1.heap.size, 5, none⟩ = some (.int .u32 (fx : Nat)) ∧ w'.cell? ⟨u2.heap.size, 0, none⟩ = some (.int .u8 (fk : Nat)) ∧ w'.cell? ⟨u2.heap.size, 1, none⟩ = some (.int .u8 (fl : Nat)) ∧ w'.cell? ⟨u2.heap.size, 2, none⟩ = some (.int .u16 (fs : Nat)) ∧ w'.cell? ⟨u2.heap.size, 3, none⟩ = some (.int .u8 (fa : Nat)) ∧ w'.cell? ⟨u2.heap.size, 4, none⟩ = some (.int .u8 (gb : Nat)) ∧ w'.cell? ⟨u2.heap.size, 5, none⟩ = some (.int .u32 (gx : Nat)) ∧ (convert 27 9 (.slice (some ⟨g3, 0, none⟩) n1 c3)).run Try.prog w' = .ok (.string S1) w' ∧ (convert 27 9 (.slice (some ⟨g4, 0, none⟩) n2 c4)).run Try.prog w' = .ok (.string S2) w') (first | go_keep) (first | (go_at_call 15; refine (known_any _).mono ?_; rintro e u5 ⟨rfl, h5⟩; obtain ⟨r0, r1, r2, r3, r4, r5⟩ := (B4.below (drew_below u4)).below h5; obtain ⟨v0, v1, v2, v3, v4, v5⟩ := (G4.below (drew_below u4)).below h5; have k3 := str_run (cap := c3) (((o3.below h4).octs.below (drew_below u4)).below h5); have k4 := str_run (cap := c4) ((o4.octs.below (drew_below u4)).below h5); rw [HL.out.2] at k3; rw [HL2.out.2] at k4))
              go_wp2_with fail
              go_ret
              exact ⟨rfl, later (later (later (later (later (later h1 (fresh _ _)) h2') h3) h4) (drew_below u4)) h5⟩
          · have hne : ((fa : Int) == (ga : Int)) = false := by simp; omega
            obtain ⟨n1, hn1⟩ : ∃ n, (⟨fk, fl, fs, fa, fb, fx⟩ : Wire.Fr).enc.length = n := ⟨_, rfl⟩
            obtain ⟨S1, hS1⟩ : ∃ S, strOf (⟨fk, fl, fs, fa, fb, fx⟩ : Wire.Fr).enc = S := ⟨_, rfl⟩
            obtain ⟨n2, hn2⟩ : ∃ n, (⟨fk, fl, fs, ga, gb, gx⟩ : Wire.Fr).enc.length = n := ⟨_, rfl⟩
            obtain ⟨S2, hS2⟩ : ∃ S, strOf (⟨fk, fl, fs, ga, gb, gx⟩ : Wire.Fr).enc = S := ⟨_, rfl⟩
            have HL : Hid ((⟨fk, fl, fs, fa, fb, fx⟩ : Wire.Fr).enc.length = n1 ∧ strOf (⟨fk, fl, fs, fa, fb, fx⟩ : Wire.Fr).enc = S1) := ⟨hn1, hS1⟩
            have HL2 : Hid ((⟨fk, fl, fs, ga, gb, gx⟩ : Wire.Fr).enc.length = n2 ∧ strOf (⟨fk, fl, fs, ga, gb, gx⟩ : Wire.Fr).enc = S2) := ⟨hn2, hS2⟩
            have hstr : (S1.toList == S2.toList) = false := by
              rw [← hS1, ← hS2, str_beq (Wire.enc_oct HM.out.2.1) (Wire.enc_oct HN.out.2.1), decide_eq_false_iff_not]
              intro e
              exact hfg (Wire.enc_inj HM.out.2.1 HN.out.2.1 HM.out.2.2 HN.out.2.2 e)
            clear hn1 hS1 hn2 hS2 hfg
            go_enter Try.func3, Try.ntmps3
            go_wp2_with fail
            refine (make_is a b s c d x (by omega) _ HM.out.1 _).mono ?_
            rintro e u1 ⟨rfl, h1⟩
            unfold fr
            simp only
            go_wp2_with fail
            refine (make_is c d t a b y (by omega) _ HN.out.1 _).mono ?_
            rintro e u2 ⟨rfl, h2⟩
            unfold fr
            simp only
            obtain ⟨q0, q1, q2, q3, q4, q5⟩ := (HB.out ⟨fk, fl, fs, fa, fb, fx⟩ u1).below h2
            have B2 := ((HB.out ⟨fk, fl, fs, fa, fb, fx⟩ u1).below h2).below (fresh _ (.cells #[.int .u8 fk, .int .u8 fl, .int .u16 fs, .int .u8 ga, .int .u8 gb, .int .u32 gx] 25))
            have G2 := HB.out ⟨fk, fl, fs, ga, gb, gx⟩ u2
            have h2' := later h2 (fresh _ (.cells #[.int .u8 fk, .int .u8 fl, .int .u16 fs, .int .u8 ga, .int .u8 gb, .int .u32 gx] 25))
            have hz : u1.heap.size < u2.heap.size := by have := h2.size; simp at this; omega
            have hzn : ¬ u1.heap.size = u2.heap.size := by omega
            go_wp2_with fail
            refine (enc_is ⟨fk, fl, fs, fa, fb, fx⟩ ⟨HM.out.2.1, HM.out.2.2⟩ n1 HL.out.1 _).mono ?_
            rintro e u3 ⟨g3, c3, rfl, o3, h3⟩
            have B3 := B2.below h3
            have G3 := G2.below h3
            clear q0 q1 q2 q3 q4 q5 B2 G2
            obtain ⟨p0, p1, p2, p3, p4, p5⟩ := id B3
            obtain ⟨q0, q1, q2, q3, q4, q5⟩ := id G3
            go_wp2_with fail
            refine (enc_is ⟨fk, fl, fs, ga, gb, gx⟩ ⟨HN.out.2.1, HN.out.2.2⟩ n2 HL2.out.1 _).mono ?_
            rintro e u4 ⟨g4, c4, rfl, o4, h4⟩
            have B4 := B3.below h4
            have G4 := G3.below h4
            clear p0 p1 p2 p3 p4 p5 q0 q1 q2 q3 q4 q5 B3 G3
            have k1 := str_run (cap := c3) ((o3.below h4).octs.below (drew_below u4))
            have k2 := str_run (cap := c4) (o4.octs.below (drew_below u4))
            rw [HL.out.2] at k1
            rw [HL2.out.2] at k2
            obtain ⟨p0, p1, p2, p3, p4, p5⟩ := id B4
            obtain ⟨q0, q1, q2, q3, q4, q5⟩ := id G4
            simp only at p0 p1 p2 p3 p4 p5 q0 q1 q2 q3 q4 q5
            go_wp2_with fail
            go_region_held3 (fun w' => w'.cell? ⟨u1.heap.size, 0, none⟩ = some (.int .u8 (fk : Nat)) ∧ w'.cell? ⟨u1.heap.size, 1, none⟩ = some (.int .u8 (fl : Nat)) ∧ w'.cell? ⟨u1.heap.size, 2, none⟩ = some (.int .u16 (fs : Nat)) ∧ w'.cell? ⟨u1.heap.size, 3, none⟩ = some (.int .u8 (fa : Nat)) ∧ w'.cell? ⟨u1.heap.size, 4, none⟩ = some (.int .u8 (fb : Nat)) ∧ w'.cell? ⟨u1.heap.size, 5, none⟩ = some (.int .u32 (fx : Nat)) ∧ w'.cell? ⟨u2.heap.size, 0, none⟩ = some (.int .u8 (fk : Nat)) ∧ w'.cell? ⟨u2.heap.size, 1, none⟩ = some (.int .u8 (fl : Nat)) ∧ w'.cell? ⟨u2.heap.size, 2, none⟩ = some (.int .u16 (fs : Nat)) ∧ w'.cell? ⟨u2.heap.size, 3, none⟩ = some (.int .u8 (ga : Nat)) ∧ w'.cell? ⟨u2.heap.size, 4, none⟩ = some (.int .u8 (gb : Nat)) ∧ w'.cell? ⟨u2.heap.size, 5, none⟩ = some (.int .u32 (gx : Nat)) ∧ (convert 27 9 (.slice (some ⟨g3, 0, none⟩) n1 c3)).run Try.prog w' = .ok (.string S1) w' ∧ (convert 27 9 (.slice (some ⟨g4, 0, none⟩) n2 c4)).run Try.prog w' = .ok (.string S2) w') (first | go_keep) (first | (go_at_call 15; refine (known_any _).mono ?_; rintro e u5 ⟨rfl, h5⟩; obtain ⟨r0, r1, r2, r3, r4, r5⟩ := (B4.below (drew_below u4)).below h5; obtain ⟨v0, v1, v2, v3, v4, v5⟩ := (G4.below (drew_below u4)).below h5; have k3 := str_run (cap := c3) (((o3.below h4).octs.below (drew_below u4)).below h5); have k4 := str_run (cap := c4) ((o4.octs.below (drew_below u4)).below h5); rw [HL.out.2] at k3; rw [HL2.out.2] at k4))
            go_wp2_with fail
            go_ret
            exact ⟨rfl, later (later (later (later (later (later h1 (fresh _ _)) h2') h3) h4) (drew_below u4)) h5⟩
        · have hne : ((fs : Int) == (gs : Int)) = false := by simp; omega
          obtain ⟨n1, hn1⟩ : ∃ n, (⟨fk, fl, fs, fa, fb, fx⟩ : Wire.Fr).enc.length = n := ⟨_, rfl⟩
          obtain ⟨S1, hS1⟩ : ∃ S, strOf (⟨fk, fl, fs, fa, fb, fx⟩ : Wire.Fr).enc = S := ⟨_, rfl⟩
          obtain ⟨n2, hn2⟩ : ∃ n, (⟨fk, fl, gs, ga, gb, gx⟩ : Wire.Fr).enc.length = n := ⟨_, rfl⟩
          obtain ⟨S2, hS2⟩ : ∃ S, strOf (⟨fk, fl, gs, ga, gb, gx⟩ : Wire.Fr).enc = S := ⟨_, rfl⟩
          have HL : Hid ((⟨fk, fl, fs, fa, fb, fx⟩ : Wire.Fr).enc.length = n1 ∧ strOf (⟨fk, fl, fs, fa, fb, fx⟩ : Wire.Fr).enc = S1) := ⟨hn1, hS1⟩
          have HL2 : Hid ((⟨fk, fl, gs, ga, gb, gx⟩ : Wire.Fr).enc.length = n2 ∧ strOf (⟨fk, fl, gs, ga, gb, gx⟩ : Wire.Fr).enc = S2) := ⟨hn2, hS2⟩
          have hstr : (S1.toList == S2.toList) = false := by
            rw [← hS1, ← hS2, str_beq (Wire.enc_oct HM.out.2.1) (Wire.enc_oct HN.out.2.1), decide_eq_false_iff_not]
            intro e
            exact hfg (Wire.enc_inj HM.out.2.1 HN.out.2.1 HM.out.2.2 HN.out.2.2 e)
          clear hn1 hS1 hn2 hS2 hfg
          go_enter Try.func3, Try.ntmps3
          go_wp2_with fail
          refine (make_is a b s c d x (by omega) _ HM.out.1 _).mono ?_
          rintro e u1 ⟨rfl, h1⟩
          unfold fr
          simp only
          go_wp2_with fail
          refine (make_is c d t a b y (by omega) _ HN.out.1 _).mono ?_
          rintro e u2 ⟨rfl, h2⟩
          unfold fr
          simp only
          obtain ⟨q0, q1, q2, q3, q4, q5⟩ := (HB.out ⟨fk, fl, fs, fa, fb, fx⟩ u1).below h2
          have B2 := ((HB.out ⟨fk, fl, fs, fa, fb, fx⟩ u1).below h2).below (fresh _ (.cells #[.int .u8 fk, .int .u8 fl, .int .u16 gs, .int .u8 ga, .int .u8 gb, .int .u32 gx] 25))
          have G2 := HB.out ⟨fk, fl, gs, ga, gb, gx⟩ u2
          have h2' := later h2 (fresh _ (.cells #[.int .u8 fk, .int .u8 fl, .int .u16 gs, .int .u8 ga, .int .u8 gb, .int .u32 gx] 25))
          have hz : u1.heap.size < u2.heap.size := by have := h2.size; simp at this; omega
          have hzn : ¬ u1.heap.size = u2.heap.size := by omega
          go_wp2_with fail
          refine (enc_is ⟨fk, fl, fs, fa, fb, fx⟩ ⟨HM.out.2.1, HM.out.2.2⟩ n1 HL.out.1 _).mono ?_
          rintro e u3 ⟨g3, c3, rfl, o3, h3⟩
          have B3 := B2.below h3
          have G3 := G2.below h3
          clear q0 q1 q2 q3 q4 q5 B2 G2
          obtain ⟨p0, p1, p2, p3, p4, p5⟩ := id B3
          obtain ⟨q0, q1, q2, q3, q4, q5⟩ := id G3
          go_wp2_with fail
          refine (enc_is ⟨fk, fl, gs, ga, gb, gx⟩ ⟨HN.out.2.1, HN.out.2.2⟩ n2 HL2.out.1 _).mono ?_
          rintro e u4 ⟨g4, c4, rfl, o4, h4⟩
          have B4 := B3.below h4
          have G4 := G3.below h4
          clear p0 p1 p2 p3 p4 p5 q0 q1 q2 q3 q4 q5 B3 G3
          have k1 := str_run (cap := c3) ((o3.below h4).octs.below (drew_below u4))
          have k2 := str_run (cap := c4) (o4.octs.below (drew_below u4))
          rw [HL.out.2] at k1
          rw [HL2.out.2] at k2
          obtain ⟨p0, p1, p2, p3, p4, p5⟩ := id B4
          obtain ⟨q0, q1, q2, q3, q4, q5⟩ := id G4
          simp only at p0 p1 p2 p3 p4 p5 q0 q1 q2 q3 q4 q5
          go_wp2_with fail
          go_region_held3 (fun w' => w'.cell? ⟨u1.heap.size, 0, none⟩ = some (.int .u8 (fk : Nat)) ∧ w'.cell? ⟨u1.heap.size, 1, none⟩ = some (.int .u8 (fl : Nat)) ∧ w'.cell? ⟨u1.heap.size, 2, none⟩ = some (.int .u16 (fs : Nat)) ∧ w'.cell? ⟨u1.heap.size, 3, none⟩ = some (.int .u8 (fa : Nat)) ∧ w'.cell? ⟨u1.heap.size, 4, none⟩ = some (.int .u8 (fb : Nat)) ∧ w'.cell? ⟨u1.heap.size, 5, none⟩ = some (.int .u32 (fx : Nat)) ∧ w'.cell? ⟨u2.heap.size, 0, none⟩ = some (.int .u8 (fk : Nat)) ∧ w'.cell? ⟨u2.heap.size, 1, none⟩ = some (.int .u8 (fl : Nat)) ∧ w'.cell? ⟨u2.heap.size, 2, none⟩ = some (.int .u16 (gs : Nat)) ∧ w'.cell? ⟨u2.heap.size, 3, none⟩ = some (.int .u8 (ga : Nat)) ∧ w'.cell? ⟨u2.heap.size, 4, none⟩ = some (.int .u8 (gb : Nat)) ∧ w'.cell? ⟨u2.heap.size, 5, none⟩ = some (.int .u32 (gx : Nat)) ∧ (convert 27 9 (.slice (some ⟨g3, 0, none⟩) n1 c3)).run Try.prog w' = .ok (.string S1) w' ∧ (convert 27 9 (.slice (some ⟨g4, 0, none⟩) n2 c4)).run Try.prog w' = .ok (.string S2) w') (first | go_keep) (first | (go_at_call 15; refine (known_any _).mono ?_; rintro e u5 ⟨rfl, h5⟩; obtain ⟨r0, r1, r2, r3, r4, r5⟩ := (B4.below (drew_below u4)).below h5; obtain ⟨v0, v1, v2, v3, v4, v5⟩ := (G4.below (drew_below u4)).below h5; have k3 := str_run (cap := c3) (((o3.below h4).octs.below (drew_below u4)).below h5); have k4 := str_run (cap := c4) ((o4.octs.below (drew_below u4)).below h5); rw [HL.out.2] at k3; rw [HL2.out.2] at k4))
          go_wp2_with fail
          go_ret
          exact ⟨rfl, later (later (later (later (later (later h1 (fresh _ _)) h2') h3) h4) (drew_below u4)) h5⟩
      · have hne : ((fl : Int) == (gl : Int)) = false := by simp; omega
        obtain ⟨n1, hn1⟩ : ∃ n, (⟨fk, fl, fs, fa, fb, fx⟩ : Wire.Fr).enc.length = n := ⟨_, rfl⟩
        obtain ⟨S1, hS1⟩ : ∃ S, strOf (⟨fk, fl, fs, fa, fb, fx⟩ : Wire.Fr).enc = S := ⟨_, rfl⟩
        obtain ⟨n2, hn2⟩ : ∃ n, (⟨fk, gl, gs, ga, gb, gx⟩ : Wire.Fr).enc.length = n := ⟨_, rfl⟩
        obtain ⟨S2, hS2⟩ : ∃ S, strOf (⟨fk, gl, gs, ga, gb, gx⟩ : Wire.Fr).enc = S := ⟨_, rfl⟩
        have HL : Hid ((⟨fk, fl, fs, fa, fb, fx⟩ : Wire.Fr).enc.length = n1 ∧ strOf (⟨fk, fl, fs, fa, fb, fx⟩ : Wire.Fr).enc = S1) := ⟨hn1, hS1⟩
        have HL2 : Hid ((⟨fk, gl, gs, ga, gb, gx⟩ : Wire.Fr).enc.length = n2 ∧ strOf (⟨fk, gl, gs, ga, gb, gx⟩ : Wire.Fr).enc = S2) := ⟨hn2, hS2⟩
        have hstr : (S1.toList == S2.toList) = false := by
          rw [← hS1, ← hS2, str_beq (Wire.enc_oct HM.out.2.1) (Wire.enc_oct HN.out.2.1), decide_eq_false_iff_not]
          intro e
          exact hfg (Wire.enc_inj HM.out.2.1 HN.out.2.1 HM.out.2.2 HN.out.2.2 e)
        clear hn1 hS1 hn2 hS2 hfg
        go_enter Try.func3, Try.ntmps3
        go_wp2_with fail
        refine (make_is a b s c d x (by omega) _ HM.out.1 _).mono ?_
        rintro e u1 ⟨rfl, h1⟩
        unfold fr
        simp only
        go_wp2_with fail
        refine (make_is c d t a b y (by omega) _ HN.out.1 _).mono ?_
        rintro e u2 ⟨rfl, h2⟩
        unfold fr
        simp only
        obtain ⟨q0, q1, q2, q3, q4, q5⟩ := (HB.out ⟨fk, fl, fs, fa, fb, fx⟩ u1).below h2
        have B2 := ((HB.out ⟨fk, fl, fs, fa, fb, fx⟩ u1).below h2).below (fresh _ (.cells #[.int .u8 fk, .int .u8 gl, .int .u16 gs, .int .u8 ga, .int .u8 gb, .int .u32 gx] 25))
        have G2 := HB.out ⟨fk, gl, gs, ga, gb, gx⟩ u2
        have h2' := later h2 (fresh _ (.cells #[.int .u8 fk, .int .u8 gl, .int .u16 gs, .int .u8 ga, .int .u8 gb, .int .u32 gx] 25))
        have hz : u1.heap.size < u2.heap.size := by have := h2.size; simp at this; omega
        have hzn : ¬ u1.heap.size = u2.heap.size := by omega
        go_wp2_with fail
        refine (enc_is ⟨fk, fl, fs, fa, fb, fx⟩ ⟨HM.out.2.1, HM.out.2.2⟩ n1 HL.out.1 _).mono ?_
        rintro e u3 ⟨g3, c3, rfl, o3, h3⟩
        have B3 := B2.below h3
        have G3 := G2.below h3
        clear q0 q1 q2 q3 q4 q5 B2 G2
        obtain ⟨p0, p1, p2, p3, p4, p5⟩ := id B3
        obtain ⟨q0, q1, q2, q3, q4, q5⟩ := id G3
        go_wp2_with fail
        refine (enc_is ⟨fk, gl, gs, ga, gb, gx⟩ ⟨HN.out.2.1, HN.out.2.2⟩ n2 HL2.out.1 _).mono ?_
        rintro e u4 ⟨g4, c4, rfl, o4, h4⟩
        have B4 := B3.below h4
        have G4 := G3.below h4
        clear p0 p1 p2 p3 p4 p5 q0 q1 q2 q3 q4 q5 B3 G3
        have k1 := str_run (cap := c3) ((o3.below h4).octs.below (drew_below u4))
        have k2 := str_run (cap := c4) (o4.octs.below (drew_below u4))
        rw [HL.out.2] at k1
        rw [HL2.out.2] at k2
        obtain ⟨p0, p1, p2, p3, p4, p5⟩ := id B4
        obtain ⟨q0, q1, q2, q3, q4, q5⟩ := id G4
        simp only at p0 p1 p2 p3 p4 p5 q0 q1 q2 q3 q4 q5
        go_wp2_with fail
        go_region_held3 (fun w' => w'.cell? ⟨u1.heap.size, 0, none⟩ = some (.int .u8 (fk : Nat)) ∧ w'.cell? ⟨u1.heap.size, 1, none⟩ = some (.int .u8 (fl : Nat)) ∧ w'.cell? ⟨u1.heap.size, 2, none⟩ = some (.int .u16 (fs : Nat)) ∧ w'.cell? ⟨u1.heap.size, 3, none⟩ = some (.int .u8 (fa : Nat)) ∧ w'.cell? ⟨u1.heap.size, 4, none⟩ = some (.int .u8 (fb : Nat)) ∧ w'.cell? ⟨u1.heap.size, 5, none⟩ = some (.int .u32 (fx : Nat)) ∧ w'.cell? ⟨u2.heap.size, 0, none⟩ = some (.int .u8 (fk : Nat)) ∧ w'.cell? ⟨u2.heap.size, 1, none⟩ = some (.int .u8 (gl : Nat)) ∧ w'.cell? ⟨u2.heap.size, 2, none⟩ = some (.int .u16 (gs : Nat)) ∧ w'.cell? ⟨u2.heap.size, 3, none⟩ = some (.int .u8 (ga : Nat)) ∧ w'.cell? ⟨u2.heap.size, 4, none⟩ = some (.int .u8 (gb : Nat)) ∧ w'.cell? ⟨u2.heap.size, 5, none⟩ = some (.int .u32 (gx : Nat)) ∧ (convert 27 9 (.slice (some ⟨g3, 0, none⟩) n1 c3)).run Try.prog w' = .ok (.string S1) w' ∧ (convert 27 9 (.slice (some ⟨g4, 0, none⟩) n2 c4)).run Try.prog w' = .ok (.string S2) w') (first | go_keep) (first | (go_at_call 15; refine (known_any _).mono ?_; rintro e u5 ⟨rfl, h5⟩; obtain ⟨r0, r1, r2, r3, r4, r5⟩ := (B4.below (drew_below u4)).below h5; obtain ⟨v0, v1, v2, v3, v4, v5⟩ := (G4.below (drew_below u4)).below h5; have k3 := str_run (cap := c3) (((o3.below h4).octs.below (drew_below u4)).below h5); have k4 := str_run (cap := c4) ((o4.octs.below (drew_below u4)).below h5); rw [HL.out.2] at k3; rw [HL2.out.2] at k4))
        go_wp2_with fail
        go_ret
        exact ⟨rfl, later (later (later (later (later (later h1 (fresh _ _)) h2') h3) h4) (drew_below u4)) h5⟩
    · have hne : ((fk : Int) == (gk : Int)) = false := by simp; omega
      obtain ⟨n1, hn1⟩ : ∃ n, (⟨fk, fl, fs, fa, fb, fx⟩ : Wire.Fr).enc.length = n := ⟨_, rfl⟩
      obtain ⟨S1, hS1⟩ : ∃ S, strOf (⟨fk, fl, fs, fa, fb, fx⟩ : Wire.Fr).enc = S := ⟨_, rfl⟩
      obtain ⟨n2, hn2⟩ : ∃ n, (⟨gk, gl, gs, ga, gb, gx⟩ : Wire.Fr).enc.length = n := ⟨_, rfl⟩
      obtain ⟨S2, hS2⟩ : ∃ S, strOf (⟨gk, gl, gs, ga, gb, gx⟩ : Wire.Fr).enc = S := ⟨_, rfl⟩
      have HL : Hid ((⟨fk, fl, fs, fa, fb, fx⟩ : Wire.Fr).enc.length = n1 ∧ strOf (⟨fk, fl, fs, fa, fb, fx⟩ : Wire.Fr).enc = S1) := ⟨hn1, hS1⟩
      have HL2 : Hid ((⟨gk, gl, gs, ga, gb, gx⟩ : Wire.Fr).enc.length = n2 ∧ strOf (⟨gk, gl, gs, ga, gb, gx⟩ : Wire.Fr).enc = S2) := ⟨hn2, hS2⟩
      have hstr : (S1.toList == S2.toList) = false := by
        rw [← hS1, ← hS2, str_beq (Wire.enc_oct HM.out.2.1) (Wire.enc_oct HN.out.2.1), decide_eq_false_iff_not]
        intro e
        exact hfg (Wire.enc_inj HM.out.2.1 HN.out.2.1 HM.out.2.2 HN.out.2.2 e)
      clear hn1 hS1 hn2 hS2 hfg
      go_enter Try.func3, Try.ntmps3
      go_wp2_with fail
      refine (make_is a b s c d x (by omega) _ HM.out.1 _).mono ?_
      rintro e u1 ⟨rfl, h1⟩
      unfold fr
      simp only
      go_wp2_with fail
      refine (make_is c d t a b y (by omega) _ HN.out.1 _).mono ?_
      rintro e u2 ⟨rfl, h2⟩
      unfold fr
      simp only
      obtain ⟨q0, q1, q2, q3, q4, q5⟩ := (HB.out ⟨fk, fl, fs, fa, fb, fx⟩ u1).below h2
      have B2 := ((HB.out ⟨fk, fl, fs, fa, fb, fx⟩ u1).below h2).below (fresh _ (.cells #[.int .u8 gk, .int .u8 gl, .int .u16 gs, .int .u8 ga, .int .u8 gb, .int .u32 gx] 25))
      have G2 := HB.out ⟨gk, gl, gs, ga, gb, gx⟩ u2
      have h2' := later h2 (fresh _ (.cells #[.int .u8 gk, .int .u8 gl, .int .u16 gs, .int .u8 ga, .int .u8 gb, .int .u32 gx] 25))
      have hz : u1.heap.size < u2.heap.size := by have := h2.size; simp at this; omega
      have hzn : ¬ u1.heap.size = u2.heap.size := by omega
      go_wp2_with fail
      refine (enc_is ⟨fk, fl, fs, fa, fb, fx⟩ ⟨HM.out.2.1, HM.out.2.2⟩ n1 HL.out.1 _).mono ?_
      rintro e u3 ⟨g3, c3, rfl, o3, h3⟩
      have B3 := B2.below h3
      have G3 := G2.below h3
      clear q0 q1 q2 q3 q4 q5 B2 G2
      obtain ⟨p0, p1, p2, p3, p4, p5⟩ := id B3
      obtain ⟨q0, q1, q2, q3, q4, q5⟩ := id G3
      go_wp2_with fail
      refine (enc_is ⟨gk, gl, gs, ga, gb, gx⟩ ⟨HN.out.2.1, HN.out.2.2⟩ n2 HL2.out.1 _).mono ?_
      rintro e u4 ⟨g4, c4, rfl, o4, h4⟩
      have B4 := B3.below h4
      have G4 := G3.below h4
      clear p0 p1 p2 p3 p4 p5 q0 q1 q2 q3 q4 q5 B3 G3
      have k1 := str_run (cap := c3) ((o3.below h4).octs.below (drew_below u4))
      have k2 := str_run (cap := c4) (o4.octs.below (drew_below u4))
      rw [HL.out.2] at k1
      rw [HL2.out.2] at k2
      obtain ⟨p0, p1, p2, p3, p4, p5⟩ := id B4
      obtain ⟨q0, q1, q2, q3, q4, q5⟩ := id G4
      simp only at p0 p1 p2 p3 p4 p5 q0 q1 q2 q3 q4 q5
      go_wp2_with fail
      go_region_held3 (fun w' => w'.cell? ⟨u1.heap.size, 0, none⟩ = some (.int .u8 (fk : Nat)) ∧ w'.cell? ⟨u1.heap.size, 1, none⟩ = some (.int .u8 (fl : Nat)) ∧ w'.cell? ⟨u1.heap.size, 2, none⟩ = some (.int .u16 (fs : Nat)) ∧ w'.cell? ⟨u1.heap.size, 3, none⟩ = some (.int .u8 (fa : Nat)) ∧ w'.cell? ⟨u1.heap.size, 4, none⟩ = some (.int .u8 (fb : Nat)) ∧ w'.cell? ⟨u1.heap.size, 5, none⟩ = some (.int .u32 (fx : Nat)) ∧ w'.cell? ⟨u2.heap.size, 0, none⟩ = some (.int .u8 (gk : Nat)) ∧ w'.cell? ⟨u2.heap.size, 1, none⟩ = some (.int .u8 (gl : Nat)) ∧ w'.cell? ⟨u2.heap.size, 2, none⟩ = some (.int .u16 (gs : Nat)) ∧ w'.cell? ⟨u2.heap.size, 3, none⟩ = some (.int .u8 (ga : Nat)) ∧ w'.cell? ⟨u2.heap.size, 4, none⟩ = some (.int .u8 (gb : Nat)) ∧ w'.cell? ⟨u2.heap.size, 5, none⟩ = some (.int .u32 (gx : Nat)) ∧ (convert 27 9 (.slice (some ⟨g3, 0, none⟩) n1 c3)).run Try.prog w' = .ok (.string S1) w' ∧ (convert 27 9 (.slice (some ⟨g4, 0, none⟩) n2 c4)).run Try.prog w' = .ok (.string S2) w') (first | go_keep) (first | (go_at_call 15; refine (known_any _).mono ?_; rintro e u5 ⟨rfl, h5⟩; obtain ⟨r0, r1, r2, r3, r4, r5⟩ := (B4.below (drew_below u4)).below h5; obtain ⟨v0, v1, v2, v3, v4, v5⟩ := (G4.below (drew_below u4)).below h5; have k3 := str_run (cap := c3) (((o3.below h4).octs.below (drew_below u4)).below h5); have k4 := str_run (cap := c4) ((o4.octs.below (drew_below u4)).below h5); rw [HL.out.2] at k3; rw [HL2.out.2] at k4))
      go_wp2_with fail
      go_ret
      exact ⟨rfl, later (later (later (later (later (later h1 (fresh _ _)) h2') h3) h4) (drew_below u4)) h5⟩

set_option maxRecDepth 100000 in
theorem lifted (os : Os) (started : os.Started) (H : Type) (enc : TypeId × Value → H) :
    ReturnsInHanded {} Try.checked os 3 .any (Rows.wireApartSpec.pre6 enc Try.prog Try.f3 Rows.wireApartRow.domain false) (Rows.wireApartSpec.post enc Try.prog Try.f3 false true false false) := by
  refine returnsInHanded_of_change (C := Try.checked) own started (by kernel_rfl) Try.func3
    (ChangeSpec.witness6 (enc := enc) (C := Try.checked) false ⟨#[], #[.int .u8 0, .int .u8 0, .int .u8 0, .int .u8 0, .int .u16 0, .int .u16 0, .int .u32 0, .int .u32 0], []⟩ 8 (by kernel_rfl) (by kernel_rfl) (by kernel_rfl) (by kernel_rfl)) ?_
  intro W base args ds gs before hval0 hW hcnd _
  have hval : ∀ (j : Nat) t v, Try.f3.params[j]? = some t → args[j]? = some v → Value.okWide Try.prog W .any base t v := hval0
  have hW' := hW
  obtain ⟨p, q, hA0, hV, rfl, hfz, hnd⟩ := hW
  have hA : DataW.TrodAll enc Try.prog W 0 (fun _ => true) true Try.f3.params.toList args.toList ds p := hA0
  rw [Try.params3] at hA hval
  obtain ⟨v0, vs0, d0, ds0, p0, q0, hargs, rfl, rfl, h0, r0⟩ := trodAll_cons hA
  obtain ⟨v1, vs1, d1, ds1, p1, q1, rfl, rfl, rfl, h1, r1⟩ := trodAll_cons r0
  obtain ⟨v2, vs2, d2, ds2, p2, q2, rfl, rfl, rfl, h2, r2⟩ := trodAll_cons r1
  obtain ⟨v3, vs3, d3, ds3, p3, q3, rfl, rfl, rfl, h3, r3⟩ := trodAll_cons r2
  obtain ⟨v4, vs4, d4, ds4, p4, q4, rfl, rfl, rfl, h4, r4⟩ := trodAll_cons r3
  obtain ⟨v5, vs5, d5, ds5, p5, q5, rfl, rfl, rfl, h5, r5⟩ := trodAll_cons r4
  obtain ⟨v6, vs6, d6, ds6, p6, q6, rfl, rfl, rfl, h6, r6⟩ := trodAll_cons r5
  obtain ⟨v7, vs7, d7, ds7, p7, q7, rfl, rfl, rfl, h7, r7⟩ := trodAll_cons r6
  obtain ⟨rfl, rfl, rfl⟩ := trodAll_nil r7
  obtain rfl : args = #[v0, v1, v2, v3, v4, v5, v6, v7] := by cases args; simp_all
  obtain ⟨rfl, rfl⟩ := trodVars_none hV
  obtain ⟨a0, rfl, rfl, rfl, w0⟩ := open_int Try.underlying5 (hval 0 5 v0 rfl rfl) h0
  obtain ⟨a1, rfl, rfl, rfl, w1⟩ := open_int Try.underlying5 (hval 1 5 v1 rfl rfl) h1
  obtain ⟨a2, rfl, rfl, rfl, w2⟩ := open_int Try.underlying5 (hval 2 5 v2 rfl rfl) h2
  obtain ⟨a3, rfl, rfl, rfl, w3⟩ := open_int Try.underlying5 (hval 3 5 v3 rfl rfl) h3
  obtain ⟨a4, rfl, rfl, rfl, w4⟩ := open_int Try.underlying22 (hval 4 22 v4 rfl rfl) h4
  obtain ⟨a5, rfl, rfl, rfl, w5⟩ := open_int Try.underlying22 (hval 5 22 v5 rfl rfl) h5
  obtain ⟨a6, rfl, rfl, rfl, w6⟩ := open_int Try.underlying23 (hval 6 23 v6 rfl rfl) h6
  obtain ⟨a7, rfl, rfl, rfl, w7⟩ := open_int Try.underlying23 (hval 7 23 v7 rfl rfl) h7
  clear hA0 hval0
  refine (walk a0 a1 a2 a3 a4 a5 a6 a7 w0 w1 w2 w3 w4 w5 w6 w7 W).mono fun e W' ⟨he, bel⟩ => ?_
  subst he
  exact ⟨_, rfl, _, _, _, [], _, [], hW', trodAll_mk1 (shut_bool Try.underlying4 _), (trodAll_cons_mk (shut_int Try.underlying5 w0) (trodAll_cons_mk (shut_int Try.underlying5 w1) (trodAll_cons_mk (shut_int Try.underlying5 w2) (trodAll_cons_mk (shut_int Try.underlying5 w3) (trodAll_cons_mk (shut_int Try.underlying22 w4) (trodAll_cons_mk (shut_int Try.underlying22 w5) (trodAll_cons_mk (shut_int Try.underlying23 w6) (trodAll_cons_mk (shut_int Try.underlying23 w7) trodAll_mk0)))))))), rfl, bel.frame _, fun h => by cases h⟩

theorem over : Rows.wireApartRow.holds Try.pinned (OpenSpec.ofChange Rows.wireApartSpec) :=
  OpenClaim.holds_of_wide 3 Try.f3 rfl rfl rfl rfl rfl rfl rfl ⟨rfl, rfl, rfl, rfl, rfl⟩ rfl rfl rfl rfl rfl (by kernel_rfl) Try.func3 (by kernel_rfl)
    (of_decide_eq_true (by kernel_rfl)) (by unfold Func.isWrapper; first | (rw [if_pos (by decide +kernel)]; kernel_rfl) | (rw [if_neg (by decide +kernel)]; exact ⟨rfl, rfl⟩))
    (fun os started H enc _ => lifted os started H enc)

theorem proved : Rows.WireApartSaid :=
  over
#print axioms proved
end Go.Proofs.Ytmllgbgcageccaa.wireApart
