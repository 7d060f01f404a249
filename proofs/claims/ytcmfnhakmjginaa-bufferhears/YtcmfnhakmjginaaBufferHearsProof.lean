/-
  For every three numbers, the law BufferHears of package shunterlaw06 returns true and leaves its arguments as they were. Conditions: none.
-/
import Derived.Test.YtcmfnhakmjginaaBufferB
import Derived.Test.YtcmfnhakmjginaaRows
import Derived.WalkKit
import Derived.ProofKit
import Derived.OpenShut
import Derived.ShutString
import Derived.ChangeOld
import Derived.Below
namespace Go.Proofs.Ytcmfnhakmjginaa.bufferHears
open Go.ChangeShapes Go.WideShapes Go.ChangeAt Go.RowKit
set_option linter.unusedVariables false      -- a walk need not use every 'w<i>' (that an integer argument fits its kind)

theorem own : ownKnob Try.prog.godebug = none := by kernel_rfl

set_option maxHeartbeats 1000000 in
theorem walk (a0 : Int) (a1 : Int) (a2 : Int) (w0 : (Lit.int .u32 a0).wf = true) (w1 : (Lit.int .u8 a1).wf = true) (w2 : (Lit.int .u8 a2).wf = true) (w : World) :
    Calls Try.prog 5 #[.int .u32 a0, .int .u8 a1, .int .u8 a2] w fun e w' => e = .returned (.bool true) ∧ Below w.heap.size w w' := by
  obtain ⟨h00, h01⟩ := bounds_u32 w0
  obtain ⟨h10, h11⟩ := bounds_u8 w1
  obtain ⟨h20, h21⟩ := bounds_u8 w2
  clear w0 w1 w2
  by_cases hb : 0 < a2 % 12 ∧ a2 % 12 ≤ 1 + a1 % 8
  · obtain ⟨hb1, hb2⟩ := hb
    go_enter Try.func5, Try.ntmps5
    go_wp2_with fail
    refine (m_new a0 (1 + a1 % 8) (by omega) (by omega) w _ (Below.refl _ _)).mono ?_
    rintro e u1 ⟨p, rfl, m1⟩
    have H1 : Hid (Mine w u1 p a0 (1 + a1 % 8) 0) := m1
    clear m1
    go_wp2_with fail
    refine (m_limit H1.out (by omega) (a0 + (1 + a1 % 8)) (by omega)).mono ?_
    rintro e u2 ⟨rfl, m2⟩
    have H2 : Hid (Mine w u2 p a0 (1 + a1 % 8) 0) := m2
    clear m2 H1
    go_wp2_with fail
    refine (m_hear_yes H2.out (by omega) _ (a0 + a2 % 12) (by first | rfl | omega) (by omega)).mono ?_
    rintro e u3 ⟨rfl, m3⟩
    have H3 : Hid (Mine w u3 p (a0 + a2 % 12) (1 + a1 % 8) 0) := m3
    clear m3 H2
    go_wp2_with fail
    refine (known_any _).mono ?_
    rintro e u4 ⟨rfl, b4⟩
    have H4 : Hid (Mine w u4 p (a0 + a2 % 12) (1 + a1 % 8) 0) := H3.out.on b4
    clear b4 H3
    go_wp2_with fail
    refine (m_limit H4.out (by omega) (a0 + (1 + a1 % 8) + a2 % 12) (by omega)).mono ?_
    rintro e u5 ⟨rfl, m5⟩
    have H5 : Hid (Mine w u5 p (a0 + a2 % 12) (1 + a1 % 8) 0) := m5
    clear m5 H4
    go_wp2_with fail
    refine (m_stale H5.out (by omega) _ a0 (by first | rfl | omega) (by omega) (by omega) (by omega)).mono ?_
    rintro e u6 ⟨rfl, m6⟩
    have H6 : Hid (Mine w u6 p (a0 + a2 % 12) (1 + a1 % 8) 0) := m6
    clear m6 H5
    go_wp2_with fail
    refine (m_held H6.out).mono ?_
    rintro e u7 ⟨rfl, rfl⟩
    go_wp2_with fail
    go_ret
    exact ⟨ret_bool (by simp), H6.out.below⟩
  · by_cases hz : 0 < a2 % 12
    · have hy : ¬ a2 % 12 ≤ 1 + a1 % 8 := by omega
      clear hb
      go_enter Try.func5, Try.ntmps5
      go_wp2_with fail
      refine (m_new a0 (1 + a1 % 8) (by omega) (by omega) w _ (Below.refl _ _)).mono ?_
      rintro e u1 ⟨p, rfl, m1⟩
      have H1 : Hid (Mine w u1 p a0 (1 + a1 % 8) 0) := m1
      clear m1
      go_wp2_with fail
      refine (m_limit H1.out (by omega) (a0 + (1 + a1 % 8)) (by omega)).mono ?_
      rintro e u2 ⟨rfl, m2⟩
      have H2 : Hid (Mine w u2 p a0 (1 + a1 % 8) 0) := m2
      clear m2 H1
      go_wp2_with fail
      refine (m_hear_no H2.out (by omega) _ (a0 + a2 % 12) (by first | rfl | omega) (by omega) (by omega) (by omega) (by omega)).mono ?_
      rintro e u3 ⟨rfl, m3⟩
      have H3 : Hid (Mine w u3 p a0 (1 + a1 % 8) 0) := m3
      clear m3 H2
      go_wp2_with fail
      refine (known_any _).mono ?_
      rintro e u4 ⟨rfl, b4⟩
      have H4 : Hid (Mine w u4 p a0 (1 + a1 % 8) 0) := H3.out.on b4
      clear b4 H3
      go_wp2_with fail
      refine (m_limit H4.out (by omega) (a0 + (1 + a1 % 8)) (by omega)).mono ?_
      rintro e u5 ⟨rfl, m5⟩
      have H5 : Hid (Mine w u5 p a0 (1 + a1 % 8) 0) := m5
      clear m5 H4
      go_wp2_with fail
      refine (m_expects H5.out).mono ?_
      rintro e u6 ⟨rfl, rfl⟩
      go_wp2_with fail
      go_ret
      exact ⟨ret_bool (by simp), H5.out.below⟩
      exfalso
      have hbad : (!decide (a2 % 12 ≤ 1 + a1 % 8)) = false := by assumption
      simp at hbad
      omega
    · clear hb
      go_enter Try.func5, Try.ntmps5
      go_wp2_with fail
      refine (m_new a0 (1 + a1 % 8) (by omega) (by omega) w _ (Below.refl _ _)).mono ?_
      rintro e u1 ⟨p, rfl, m1⟩
      have H1 : Hid (Mine w u1 p a0 (1 + a1 % 8) 0) := m1
      clear m1
      go_wp2_with fail
      refine (m_limit H1.out (by omega) (a0 + (1 + a1 % 8)) (by omega)).mono ?_
      rintro e u2 ⟨rfl, m2⟩
      have H2 : Hid (Mine w u2 p a0 (1 + a1 % 8) 0) := m2
      clear m2 H1
      go_wp2_with fail
      refine (m_hear_no H2.out (by omega) _ (a0 + a2 % 12) (by first | rfl | omega) (by omega) (by omega) (by omega) (by omega)).mono ?_
      rintro e u3 ⟨rfl, m3⟩
      have H3 : Hid (Mine w u3 p a0 (1 + a1 % 8) 0) := m3
      clear m3 H2
      go_wp2_with fail
      refine (known_any _).mono ?_
      rintro e u4 ⟨rfl, b4⟩
      have H4 : Hid (Mine w u4 p a0 (1 + a1 % 8) 0) := H3.out.on b4
      clear b4 H3
      go_wp2_with fail
      refine (m_limit H4.out (by omega) (a0 + (1 + a1 % 8)) (by omega)).mono ?_
      rintro e u5 ⟨rfl, m5⟩
      have H5 : Hid (Mine w u5 p a0 (1 + a1 % 8) 0) := m5
      clear m5 H4
      go_wp2_with fail
      refine (m_expects H5.out).mono ?_
      rintro e u6 ⟨rfl, rfl⟩
      go_wp2_with fail
      go_ret
      exact ⟨ret_bool (by simp), H5.out.below⟩

set_option maxRecDepth 100000 in
theorem lifted (os : Os) (started : os.Started) (H : Type) (enc : TypeId × Value → H) :
    ReturnsInHanded {} Try.checked os 5 .any (Rows.bufferHearsSpec.pre6 enc Try.prog Try.f5 Rows.bufferHearsRow.domain false) (Rows.bufferHearsSpec.post enc Try.prog Try.f5 false true false false) := by
  refine returnsInHanded_of_change (C := Try.checked) own started (by kernel_rfl) Try.func5
    (ChangeSpec.witness6 (enc := enc) (C := Try.checked) false ⟨#[], #[.int .u32 0, .int .u8 0, .int .u8 0], []⟩ 8 (by kernel_rfl) (by kernel_rfl) (by kernel_rfl) (by kernel_rfl)) ?_
  intro W base args ds gs before hval0 hW hcnd _
  have hval : ∀ (j : Nat) t v, Try.f5.params[j]? = some t → args[j]? = some v → Value.okWide Try.prog W .any base t v := hval0
  have hW' := hW
  obtain ⟨p, q, hA0, hV, rfl, hfz, hnd⟩ := hW
  have hA : DataW.TrodAll enc Try.prog W 0 (fun _ => true) true Try.f5.params.toList args.toList ds p := hA0
  rw [Try.params5] at hA hval
  obtain ⟨v0, vs0, d0, ds0, p0, q0, hargs, rfl, rfl, h0, r0⟩ := trodAll_cons hA
  obtain ⟨v1, vs1, d1, ds1, p1, q1, rfl, rfl, rfl, h1, r1⟩ := trodAll_cons r0
  obtain ⟨v2, vs2, d2, ds2, p2, q2, rfl, rfl, rfl, h2, r2⟩ := trodAll_cons r1
  obtain ⟨rfl, rfl, rfl⟩ := trodAll_nil r2
  obtain rfl : args = #[v0, v1, v2] := by cases args; simp_all
  obtain ⟨rfl, rfl⟩ := trodVars_none hV
  obtain ⟨a0, rfl, rfl, rfl, w0⟩ := open_int Try.underlying29 (hval 0 29 v0 rfl rfl) h0
  obtain ⟨a1, rfl, rfl, rfl, w1⟩ := open_int Try.underlying5 (hval 1 5 v1 rfl rfl) h1
  obtain ⟨a2, rfl, rfl, rfl, w2⟩ := open_int Try.underlying5 (hval 2 5 v2 rfl rfl) h2
  clear hA0 hval0
  refine (walk a0 a1 a2 w0 w1 w2 W).mono fun e W' ⟨he, bel⟩ => ?_
  subst he
  exact ⟨_, rfl, _, _, _, [], _, [], hW', trodAll_mk1 (shut_bool Try.underlying4 _), (trodAll_cons_mk (shut_int Try.underlying29 w0) (trodAll_cons_mk (shut_int Try.underlying5 w1) (trodAll_cons_mk (shut_int Try.underlying5 w2) trodAll_mk0))), rfl, bel.frame _, fun h => by cases h⟩

theorem over : Rows.bufferHearsRow.holds Try.pinned (OpenSpec.ofChange Rows.bufferHearsSpec) :=
  OpenClaim.holds_of_wide 5 Try.f5 rfl rfl rfl rfl rfl rfl rfl ⟨rfl, rfl, rfl, rfl, rfl⟩ rfl rfl rfl rfl rfl (by kernel_rfl) Try.func5 (by kernel_rfl)
    (of_decide_eq_true (by kernel_rfl)) (by unfold Func.isWrapper; first | (rw [if_pos (by decide +kernel)]; kernel_rfl) | (rw [if_neg (by decide +kernel)]; exact ⟨rfl, rfl⟩))
    (fun os started H enc _ => lifted os started H enc)

theorem proved : Rows.BufferHearsSaid :=
  over
#print axioms proved
end Go.Proofs.Ytcmfnhakmjginaa.bufferHears
