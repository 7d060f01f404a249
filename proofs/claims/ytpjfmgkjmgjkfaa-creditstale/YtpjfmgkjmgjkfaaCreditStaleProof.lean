/-
  For every four numbers, the law CreditStale of package shunterlaw05 returns true and leaves its arguments as they were. Conditions: none.
-/
import Derived.Test.YtpjfmgkjmgjkfaaCreditB
import Derived.Test.YtpjfmgkjmgjkfaaRows
import Derived.WalkKit
import Derived.ProofKit
import Derived.OpenShut
import Derived.ShutString
import Derived.ChangeOld
import Derived.Below
namespace Go.Proofs.Ytpjfmgkjmgjkfaa.creditStale
open Go.ChangeShapes Go.WideShapes Go.ChangeAt Go.RowKit
set_option linter.unusedVariables false      -- a walk need not use every 'w<i>' (that an integer argument fits its kind)

theorem own : ownKnob Try.prog.godebug = none := by kernel_rfl

set_option maxHeartbeats 1000000 in
theorem walk (a0 : Int) (a1 : Int) (a2 : Int) (a3 : Int) (w0 : (Lit.int .u32 a0).wf = true) (w1 : (Lit.int .u8 a1).wf = true) (w2 : (Lit.int .u8 a2).wf = true) (w3 : (Lit.int .u8 a3).wf = true) (w : World) :
    Calls Try.prog 4 #[.int .u32 a0, .int .u8 a1, .int .u8 a2, .int .u8 a3] w fun e w' => e = .returned (.bool true) ∧ Below w.heap.size w w' := by
  obtain ⟨h00, h01⟩ := bounds_u32 w0
  obtain ⟨h10, h11⟩ := bounds_u8 w1
  obtain ⟨h20, h21⟩ := bounds_u8 w2
  obtain ⟨h30, h31⟩ := bounds_u8 w3
  clear w0 w1 w2 w3
  go_enter Try.func4, Try.ntmps4
  go_wp2_with fail
  refine (new_good (a0 + 1000) (1 + a1 % 8) (by omega) (by omega) w _ (Below.refl _ _)).mono ?_
  rintro e u1 ⟨p, rfl, m1⟩
  obtain ⟨l, hl⟩ : ∃ l, a0 + 1000 + (1 + a1 % 8) = l := ⟨_, rfl⟩
  rw [hl] at m1
  have H1 : Hid (Mine w u1 p (a0 + 1000) l) := m1
  have HL : Hid (a0 + 1000 + (1 + a1 % 8) = l) := hl
  have hl0 : a0 + 1001 ≤ l := by omega
  have hl1 : l ≤ a0 + 1008 := by omega
  clear m1 hl
  go_wp2_with fail
  refine (limit_any H1.out).mono ?_
  rintro e u2 ⟨rfl, rfl⟩
  go_wp2_with fail
  refine (hear_stale H1.out _ (l - a2) (by first | rfl | omega) (by omega) (by omega) (by omega) (by omega) (by omega)).mono ?_
  rintro e u3 ⟨rfl, m3⟩
  have H3 : Hid (Mine w u3 p (a0 + 1000) l) := m3
  clear m3 H1
  go_wp2_with fail
  refine (sent_any H3.out).mono ?_
  rintro e u4 ⟨rfl, rfl⟩
  go_wp2_with fail
  refine (hear_stale H3.out _ (a0 + 1000 + 9 + a3) (by first | rfl | omega) (by omega) (by omega) (by omega) (by omega) (by omega)).mono ?_
  rintro e u5 ⟨rfl, m5⟩
  have H5 : Hid (Mine w u5 p (a0 + 1000) l) := m5
  clear m5 H3
  go_wp2_with fail
  refine (known_any _).mono ?_
  rintro e u6 ⟨rfl, b6⟩
  have H6 : Hid (Mine w u6 p (a0 + 1000) l) := H5.out.on b6
  clear b6 H5
  go_wp2_with fail
  refine (limit_any H6.out).mono ?_
  rintro e u7 ⟨rfl, rfl⟩
  go_wp2_with fail
  refine (usable_any H6.out (1 + a1 % 8) (by have := HL.out; omega)).mono ?_
  rintro e u8 ⟨rfl, m8⟩
  have H8 : Hid (Mine w u8 p (a0 + 1000) l) := m8
  clear m8 H6
  go_wp2_with fail
  go_ret
  exact ⟨ret_bool (by simp), H8.out.below⟩

set_option maxRecDepth 100000 in
theorem lifted (os : Os) (started : os.Started) (H : Type) (enc : TypeId × Value → H) :
    ReturnsInHanded {} Try.checked os 4 .any (Rows.creditStaleSpec.pre6 enc Try.prog Try.f4 Rows.creditStaleRow.domain false) (Rows.creditStaleSpec.post enc Try.prog Try.f4 false true false false) := by
  refine returnsInHanded_of_change (C := Try.checked) own started (by kernel_rfl) Try.func4
    (ChangeSpec.witness6 (enc := enc) (C := Try.checked) false ⟨#[], #[.int .u32 0, .int .u8 0, .int .u8 0, .int .u8 0], []⟩ 8 (by kernel_rfl) (by kernel_rfl) (by kernel_rfl) (by kernel_rfl)) ?_
  intro W base args ds gs before hval0 hW hcnd _
  have hval : ∀ (j : Nat) t v, Try.f4.params[j]? = some t → args[j]? = some v → Value.okWide Try.prog W .any base t v := hval0
  have hW' := hW
  obtain ⟨p, q, hA0, hV, rfl, hfz, hnd⟩ := hW
  have hA : DataW.TrodAll enc Try.prog W 0 (fun _ => true) true Try.f4.params.toList args.toList ds p := hA0
  rw [Try.params4] at hA hval
  obtain ⟨v0, vs0, d0, ds0, p0, q0, hargs, rfl, rfl, h0, r0⟩ := trodAll_cons hA
  obtain ⟨v1, vs1, d1, ds1, p1, q1, rfl, rfl, rfl, h1, r1⟩ := trodAll_cons r0
  obtain ⟨v2, vs2, d2, ds2, p2, q2, rfl, rfl, rfl, h2, r2⟩ := trodAll_cons r1
  obtain ⟨v3, vs3, d3, ds3, p3, q3, rfl, rfl, rfl, h3, r3⟩ := trodAll_cons r2
  obtain ⟨rfl, rfl, rfl⟩ := trodAll_nil r3
  obtain rfl : args = #[v0, v1, v2, v3] := by cases args; simp_all
  obtain ⟨rfl, rfl⟩ := trodVars_none hV
  obtain ⟨a0, rfl, rfl, rfl, w0⟩ := open_int Try.underlying29 (hval 0 29 v0 rfl rfl) h0
  obtain ⟨a1, rfl, rfl, rfl, w1⟩ := open_int Try.underlying5 (hval 1 5 v1 rfl rfl) h1
  obtain ⟨a2, rfl, rfl, rfl, w2⟩ := open_int Try.underlying5 (hval 2 5 v2 rfl rfl) h2
  obtain ⟨a3, rfl, rfl, rfl, w3⟩ := open_int Try.underlying5 (hval 3 5 v3 rfl rfl) h3
  clear hA0 hval0
  refine (walk a0 a1 a2 a3 w0 w1 w2 w3 W).mono fun e W' ⟨he, bel⟩ => ?_
  subst he
  exact ⟨_, rfl, _, _, _, [], _, [], hW', trodAll_mk1 (shut_bool Try.underlying4 _), (trodAll_cons_mk (shut_int Try.underlying29 w0) (trodAll_cons_mk (shut_int Try.underlying5 w1) (trodAll_cons_mk (shut_int Try.underlying5 w2) (trodAll_cons_mk (shut_int Try.underlying5 w3) trodAll_mk0)))), rfl, bel.frame _, fun h => by cases h⟩

theorem over : Rows.creditStaleRow.holds Try.pinned (OpenSpec.ofChange Rows.creditStaleSpec) :=
  OpenClaim.holds_of_wide 4 Try.f4 rfl rfl rfl rfl rfl rfl rfl ⟨rfl, rfl, rfl, rfl, rfl⟩ rfl rfl rfl rfl rfl (by kernel_rfl) Try.func4 (by kernel_rfl)
    (of_decide_eq_true (by kernel_rfl)) (by unfold Func.isWrapper; first | (rw [if_pos (by decide +kernel)]; kernel_rfl) | (rw [if_neg (by decide +kernel)]; exact ⟨rfl, rfl⟩))
    (fun os started H enc _ => lifted os started H enc)

theorem proved : Rows.CreditStaleSaid :=
  over
#print axioms proved
end Go.Proofs.Ytpjfmgkjmgjkfaa.creditStale
