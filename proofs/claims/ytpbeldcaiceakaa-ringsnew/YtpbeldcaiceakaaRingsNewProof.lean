/-
  For every three numbers, the law RingsNew of package shunterlaw08 returns true and leaves its arguments as they were. Conditions: none.
-/
import Derived.Test.YtpbeldcaiceakaaRingK
import Derived.Test.YtpbeldcaiceakaaRows
import Derived.WalkKit
import Derived.ProofKit
import Derived.OpenShut
import Derived.ShutString
import Derived.ChangeOld
import Derived.Below
namespace Go.Proofs.Ytpbeldcaiceakaa.ringsNew
open Go.ChangeShapes Go.WideShapes Go.ChangeAt Go.RowKit
set_option linter.unusedVariables false      -- a walk need not use every 'w<i>' (that an integer argument fits its kind)

theorem own : ownKnob Try.prog.godebug = none := by kernel_rfl

set_option maxRecDepth 100000 in
set_option maxHeartbeats 1000000 in
theorem walk (a0 : Int) (a1 : Int) (a2 : Int) (w0 : (Lit.int .i64 a0).wf = true) (w1 : (Lit.int .i64 a1).wf = true) (w2 : (Lit.int .i64 a2).wf = true) (w : World) :
    Calls Try.prog 3 #[.int .i64 a0, .int .i64 a1, .int .i64 a2] w fun e w' => e = .returned (.bool true) ∧ Below w.heap.size w w' := by
  have h0 := bounds_i64 w0
  have h1 := bounds_i64 w1
  have h2 := bounds_i64 w2
  clear w0 w1 w2
  by_cases hb : 1 ≤ a0 ∧ a0 ≤ 16 ∧ 1 ≤ a1 ∧ a1 ≤ 3 ∧ 1 ≤ a2 ∧ a2 ≤ 200
  · obtain ⟨P, rfl⟩ := Int.eq_ofNat_of_zero_le (a := a0) (by omega)
    obtain ⟨L, rfl⟩ := Int.eq_ofNat_of_zero_le (a := a1) (by omega)
    obtain ⟨n, rfl⟩ := Int.eq_ofNat_of_zero_le (a := a2) (by omega)
    obtain ⟨p1, p2, l1, l2, n1, n2⟩ := hb
    clear h0 h1 h2
    go_enter Try.func3, Try.ntmps3
    go_wp2_with fail
    refine (m_new (w0 := w) P L n (by omega) (by omega) (by omega) (Below.refl _ _) (G := fun _ => False) nothing).mono ?_
    rintro e u1 ⟨p, rfl, m1, _⟩
    have H1 : Hid (Solo w u1 p P L n 0 0 (fun _ => [])) := m1
    clear m1
    go_wp2_with fail
    refine (m_head H1.out 0 0 0 (wfSmall (by omega)) zpk false rfl rfl).mono ?_
    rintro e u2 ⟨rfl, m2, _⟩
    have H2 : Hid (Solo w (u2.alloc (.cells #[.int .i64 0, .int .i64 0, .int .i64 0, .int .u32 0] 27)) p P L n 0 0 (fun _ => [])) := m2.on (fresh _ _)
    clear m2 H1
    dsimp only [zpk]
    go_wp2_with fail
    refine (known_any _).mono ?_
    rintro e u3 ⟨rfl, b3⟩
    have H3 : Hid (Solo w u3 p P L n 0 0 (fun _ => [])) := H2.out.on b3
    clear b3 H2
    go_wp2_with fail
    refine (m_len H3.out 0 0 0 (wfSmall (by omega)) 0 rfl).mono ?_
    rintro e u4 ⟨rfl, h4⟩
    rw [← h4] at H3
    clear h4
    go_wp2_with fail
    refine (m_push H3.out nothing (by omega) P 0 0 (wfSmall (by omega)) zpk false (decide_eq_false (fun e => by have := e.1.1.2; simp only at this; omega))).mono ?_
    rintro e u5 ⟨rfl, m5, _⟩
    have H5 : Hid (Solo w u5 p P L n 0 1 (fun _ => [])) := m5
    clear m5 H3
    go_wp2_with fail
    refine (m_push H5.out nothing (by omega) 0 0 L (wfSmall (by omega)) zpk false (decide_eq_false (fun e => by have := e.1.2.2.2; simp only at this; omega))).mono ?_
    rintro e u6 ⟨rfl, m6, _⟩
    have H6 : Hid (Solo w u6 p P L n 0 2 (fun _ => [])) := m6
    clear m6 H5
    go_wp2_with fail
    refine (m_push H6.out nothing (by omega) 0 0 0 (wfSmall (by omega)) zpk true (decide_eq_true ⟨⟨⟨by simp only; omega, by simp only; omega⟩, ⟨by simp only; omega, by simp only; omega⟩, ⟨by simp only; omega, by simp only; omega⟩⟩, by omega⟩)).mono ?_
    rintro e u7 ⟨rfl, m7, _⟩
    go_wp2_with fail
    go_ret
    exact ⟨ret_bool (by first | rfl | simp), m7.below⟩
  · have HB : Hid (¬ (1 ≤ a0 ∧ a0 ≤ 16 ∧ 1 ≤ a1 ∧ a1 ≤ 3 ∧ 1 ≤ a2 ∧ a2 ≤ 200)) := hb
    clear hb
    go_enter Try.func3, Try.ntmps3
    go_wp2_with fail
    refine (r_new_bad a0 a1 a2 h0 h1 h2 HB.out _).mono ?_
    rintro e u1 ⟨rfl, b1⟩
    go_wp2_with fail
    all_goals
      refine (known_any _).mono ?_
      rintro e u2 ⟨rfl, b2⟩
      go_wp2_with fail
      all_goals
        go_ret
        exact ⟨ret_bool (by first | rfl | (have := HB.out; simp; omega)), later b1 b2⟩

set_option maxRecDepth 100000 in
theorem lifted (os : Os) (started : os.Started) (H : Type) (enc : TypeId × Value → H) :
    ReturnsInHanded {} Try.checked os 3 .any (Rows.ringsNewSpec.pre6 enc Try.prog Try.f3 Rows.ringsNewRow.domain false) (Rows.ringsNewSpec.post enc Try.prog Try.f3 false true false false) := by
  refine returnsInHanded_of_change (C := Try.checked) own started (by kernel_rfl) Try.func3
    (ChangeSpec.witness6 (enc := enc) (C := Try.checked) false ⟨#[], #[.int .i64 0, .int .i64 0, .int .i64 0], []⟩ 8 (by kernel_rfl) (by kernel_rfl) (by kernel_rfl) (by kernel_rfl)) ?_
  intro W base args ds gs before hval0 hW hcnd _
  have hval : ∀ (j : Nat) t v, Try.f3.params[j]? = some t → args[j]? = some v → Value.okWide Try.prog W .any base t v := hval0
  have hW' := hW
  obtain ⟨p, q, hA0, hV, rfl, hfz, hnd⟩ := hW
  have hA : DataW.TrodAll enc Try.prog W 0 (fun _ => true) true Try.f3.params.toList args.toList ds p := hA0
  rw [Try.params3] at hA hval
  obtain ⟨v0, vs0, d0, ds0, p0, q0, hargs, rfl, rfl, h0, r0⟩ := trodAll_cons hA
  obtain ⟨v1, vs1, d1, ds1, p1, q1, rfl, rfl, rfl, h1, r1⟩ := trodAll_cons r0
  obtain ⟨v2, vs2, d2, ds2, p2, q2, rfl, rfl, rfl, h2, r2⟩ := trodAll_cons r1
  obtain ⟨rfl, rfl, rfl⟩ := trodAll_nil r2
  obtain rfl : args = #[v0, v1, v2] := by cases args; simp_all
  obtain ⟨rfl, rfl⟩ := trodVars_none hV
  obtain ⟨a0, rfl, rfl, rfl, w0⟩ := open_int Try.underlying3 (hval 0 3 v0 rfl rfl) h0
  obtain ⟨a1, rfl, rfl, rfl, w1⟩ := open_int Try.underlying3 (hval 1 3 v1 rfl rfl) h1
  obtain ⟨a2, rfl, rfl, rfl, w2⟩ := open_int Try.underlying3 (hval 2 3 v2 rfl rfl) h2
  clear hA0 hval0
  refine (walk a0 a1 a2 w0 w1 w2 W).mono fun e W' ⟨he, bel⟩ => ?_
  subst he
  exact ⟨_, rfl, _, _, _, [], _, [], hW', trodAll_mk1 (shut_bool Try.underlying4 _), (trodAll_cons_mk (shut_int Try.underlying3 w0) (trodAll_cons_mk (shut_int Try.underlying3 w1) (trodAll_cons_mk (shut_int Try.underlying3 w2) trodAll_mk0))), rfl, bel.frame _, fun h => by cases h⟩

theorem over : Rows.ringsNewRow.holds Try.pinned (OpenSpec.ofChange Rows.ringsNewSpec) :=
  OpenClaim.holds_of_wide 3 Try.f3 rfl rfl rfl rfl rfl rfl rfl ⟨rfl, rfl, rfl, rfl, rfl⟩ rfl rfl rfl rfl rfl (by kernel_rfl) Try.func3 (by kernel_rfl)
    (of_decide_eq_true (by kernel_rfl)) (by unfold Func.isWrapper; first | (rw [if_pos (by decide +kernel)]; kernel_rfl) | (rw [if_neg (by decide +kernel)]; exact ⟨rfl, rfl⟩))
    (fun os started H enc _ => lifted os started H enc)

theorem proved : Rows.RingsNewSaid :=
  over
#print axioms proved
end Go.Proofs.Ytpbeldcaiceakaa.ringsNew
