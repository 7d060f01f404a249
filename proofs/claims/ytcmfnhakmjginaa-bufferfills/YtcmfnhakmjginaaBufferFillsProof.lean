/-
  For every three numbers, the law BufferFills of package shunterlaw06 returns true and leaves its arguments as they were. Conditions: none.
-/
import Derived.Test.YtcmfnhakmjginaaBufferB
import Derived.Test.YtcmfnhakmjginaaRows
import Derived.WalkKit
import Derived.ProofKit
import Derived.OpenShut
import Derived.ShutString
import Derived.ChangeOld
import Derived.Below
namespace Go.Proofs.Ytcmfnhakmjginaa.bufferFills
open Go.ChangeShapes Go.WideShapes Go.ChangeAt Go.RowKit
set_option linter.unusedVariables false      -- a walk need not use every 'w<i>' (that an integer argument fits its kind)

theorem own : ownKnob Try.prog.godebug = none := by kernel_rfl

set_option maxHeartbeats 1000000 in
theorem walk (a0 : Int) (a1 : Int) (a2 : Int) (w0 : (Lit.int .u32 a0).wf = true) (w1 : (Lit.int .u8 a1).wf = true) (w2 : (Lit.int .u8 a2).wf = true) (w : World) :
    Calls Try.prog 4 #[.int .u32 a0, .int .u8 a1, .int .u8 a2] w fun e w' => e = .returned (.bool true) ∧ Below w.heap.size w w' := by
  obtain ⟨h00, h01⟩ := bounds_u32 w0
  obtain ⟨h10, h11⟩ := bounds_u8 w1
  obtain ⟨h20, h21⟩ := bounds_u8 w2
  clear w0 w1 w2
  go_enter Try.func4, Try.ntmps4
  go_wp2_with fail
  refine (m_new a0 (1 + a1 % 8) (by omega) (by omega) w _ (Below.refl _ _)).mono ?_
  rintro e u1 ⟨p, rfl, m1⟩
  have H1 : Hid (Mine w u1 p a0 (1 + a1 % 8) 0) := m1
  clear m1
  go_wp2_with fail
  go_loopw [9, 10] (fun x i wr => ∃ k : Nat, (k : Int) ≤ 1 + a1 % 8 ∧ i = .int .i64 k ∧ x = .int .u64 (a0 + k) ∧ Mine w wr p (a0 + k) (1 + a1 % 8) k) (fun _ i _ => 20 - (intOf i).toNat)
  case atStart =>
    refine ⟨0, by omega, rfl, by simp, ?_⟩
    have := H1.out
    simpa using this
  case round =>
    obtain ⟨k, hk, rfl, rfl, hm⟩ := hrel
    have HM : Hid (Mine w wr p (a0 + k) (1 + a1 % 8) k) := hm
    clear hm H1
    by_cases hkl : (k : Int) < 1 + a1 % 8
    · go_wp2_with fail
      refine (m_ok HM.out (by omega) _ (a0 + k) (by first | rfl | omega) (by omega)).mono ?_
      rintro e u2 ⟨rfl, m2⟩
      have HM2 : Hid (Mine w u2 p (a0 + (k + 1 : Nat)) (1 + a1 % 8) (k + 1 : Nat)) := by
        have e1 : a0 + ((k + 1 : Nat) : Int) = a0 + k + 1 := by omega
        have e2 : ((k + 1 : Nat) : Int) = (k : Int) + 1 := by omega
        show Mine _ _ _ _ _ _
        rw [e1, e2]; exact m2
      clear m2 HM
      go_wp2_with fail
      go_roundw
      case rel => exact ⟨k + 1, by omega, by go_num, by go_num, HM2.out⟩
      case measure => simp [intOf]; omega
    · have hk1 : 1 ≤ k := by omega
      have hk8 : k ≤ 8 := by omega
      have HK : Hid ((k : Int) = 1 + a1 % 8) := (by omega : (k : Int) = 1 + a1 % 8)
      go_wp2_with fail
      go_loopw [9, 11] (fun x i v => ∃ j : Nat, (j : Int) ≤ a2 % 20 ∧ i = .int .i64 j ∧ x = .int .u64 (a0 + k + j) ∧ Mine w v p (a0 + k + j) (1 + a1 % 8) k) (fun _ i _ => 20 - (intOf i).toNat)
      case atStart =>
        refine ⟨0, by omega, rfl, by simp, ?_⟩
        have := HM.out
        simpa using this
      case round =>
        obtain ⟨j, hj, rfl, rfl, hm⟩ := hrel
        have HM1 : Hid (Mine w wr p (a0 + k + j) (1 + a1 % 8) k) := hm
        clear hm HM
        by_cases hjl : (j : Int) < a2 % 20
        · go_wp2_with fail
          refine (m_over HM1.out (by omega) _ (a0 + k + j) (by first | rfl | omega) (by omega) (by have := HK.out; omega)).mono ?_
          rintro e u2 ⟨rfl, m2⟩
          have HM2 : Hid (Mine w u2 p (a0 + k + j) (1 + a1 % 8) k) := m2
          clear m2 HM1
          go_wp2_with fail
          refine (m_free_some HM2.out (by omega)).mono ?_
          rintro e u3 ⟨rfl, m3⟩
          have HM3 : Hid (Mine w u3 p (a0 + k + j) (1 + a1 % 8) (k - 1)) := m3
          clear m3 HM2
          go_wp2_with fail
          refine (m_ok HM3.out (by omega) _ (a0 + k + j) (by first | rfl | omega) (by have := HK.out; omega)).mono ?_
          rintro e u4 ⟨rfl, m4⟩
          have HM4 : Hid (Mine w u4 p (a0 + k + (j + 1 : Nat)) (1 + a1 % 8) k) := by
            have e1 : a0 + k + ((j + 1 : Nat) : Int) = a0 + k + j + 1 := by omega
            have e2 : (k : Int) - 1 + 1 = k := by omega
            rw [e2] at m4
            show Mine _ _ _ _ _ _
            rw [e1]; exact m4
          clear m4 HM3
          go_wp2_with fail
          go_roundw
          case rel => exact ⟨j + 1, by omega, by go_num, by go_num, HM4.out⟩
          case measure => simp [intOf]; omega
        · go_wp2_with fail
          refine (known_any _).mono ?_
          rintro e u2 ⟨rfl, b2⟩
          have H2 : Hid (Mine w u2 p (a0 + k + j) (1 + a1 % 8) k) := HM1.out.on b2
          clear b2 HM1
          have hkk : ((k : Int) == 1 + a1 % 8) = true := by have := HK.out; simp; omega
          go_wp2_with fail
          refine (m_held H2.out).mono ?_
          rintro e u3 ⟨rfl, rfl⟩
          go_wp2_with fail
          refine (m_expects H2.out).mono ?_
          rintro e u3 ⟨rfl, rfl⟩
          go_wp2_with fail
          go_ret
          exact ⟨ret_bool (by simp), H2.out.below⟩

set_option maxRecDepth 100000 in
theorem lifted (os : Os) (started : os.Started) (H : Type) (enc : TypeId × Value → H) :
    ReturnsInHanded {} Try.checked os 4 .any (Rows.bufferFillsSpec.pre6 enc Try.prog Try.f4 Rows.bufferFillsRow.domain false) (Rows.bufferFillsSpec.post enc Try.prog Try.f4 false true false false) := by
  refine returnsInHanded_of_change (C := Try.checked) own started (by kernel_rfl) Try.func4
    (ChangeSpec.witness6 (enc := enc) (C := Try.checked) false ⟨#[], #[.int .u32 0, .int .u8 0, .int .u8 0], []⟩ 8 (by kernel_rfl) (by kernel_rfl) (by kernel_rfl) (by kernel_rfl)) ?_
  intro W base args ds gs before hval0 hW hcnd _
  have hval : ∀ (j : Nat) t v, Try.f4.params[j]? = some t → args[j]? = some v → Value.okWide Try.prog W .any base t v := hval0
  have hW' := hW
  obtain ⟨p, q, hA0, hV, rfl, hfz, hnd⟩ := hW
  have hA : DataW.TrodAll enc Try.prog W 0 (fun _ => true) true Try.f4.params.toList args.toList ds p := hA0
  rw [Try.params4] at hA hval
  obtain ⟨v0, vs0, d0, ds0, p0, q0, hargs, rfl, rfl, h0, r0⟩ := trodAll_cons hA
  obtain ⟨v1, vs1, d1, ds1, p1, q1, rfl, rfl, rfl, h1, r1⟩ := trodAll_cons r0
  obtain ⟨v2, vs2, d2, ds2, p2, q2, rfl, rfl, rfl, h2, r2⟩ := trodAll_cons r1
  obtain ⟨rfl, rfl, rfl⟩ := trodAll_nil r2
  obtain rfl : args = #[v0, v1, v2] := by cases args; simp_all
  obtain ⟨rfl, rfl⟩ := trodVars_none hV
  obtain ⟨a0, rfl, rfl, rfl, w0⟩ := open_int Try.underlying29 (hval 0 29 v0 rfl rfl) h0
  obtain ⟨a1, rfl, rfl, rfl, w1⟩ := open_int Try.underlying5 (hval 1 5 v1 rfl rfl) h1
  obtain ⟨a2, rfl, rfl, rfl, w2⟩ := open_int Try.underlying5 (hval 2 5 v2 rfl rfl) h2
  clear hA0 hval0
  refine (walk a0 a1 a2 w0 w1 w2 W).mono fun e W' ⟨he, bel⟩ => ?_
  subst he
  exact ⟨_, rfl, _, _, _, [], _, [], hW', trodAll_mk1 (shut_bool Try.underlying4 _), (trodAll_cons_mk (shut_int Try.underlying29 w0) (trodAll_cons_mk (shut_int Try.underlying5 w1) (trodAll_cons_mk (shut_int Try.underlying5 w2) trodAll_mk0))), rfl, bel.frame _, fun h => by cases h⟩

theorem over : Rows.bufferFillsRow.holds Try.pinned (OpenSpec.ofChange Rows.bufferFillsSpec) :=
  OpenClaim.holds_of_wide 4 Try.f4 rfl rfl rfl rfl rfl rfl rfl ⟨rfl, rfl, rfl, rfl, rfl⟩ rfl rfl rfl rfl rfl (by kernel_rfl) Try.func4 (by kernel_rfl)
    (of_decide_eq_true (by kernel_rfl)) (by unfold Func.isWrapper; first | (rw [if_pos (by decide +kernel)]; kernel_rfl) | (rw [if_neg (by decide +kernel)]; exact ⟨rfl, rfl⟩))
    (fun os started H enc _ => lifted os started H enc)

theorem proved : Rows.BufferFillsSaid :=
  over
#print axioms proved
end Go.Proofs.Ytcmfnhakmjginaa.bufferFills
