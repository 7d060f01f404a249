/-
  For every number, the law PoolNew of package shunterlaw07 returns true and leaves its argument as it was. Conditions: none.
-/
import Derived.Test.YtmfjalnlfcbdlaaPoolD
import Derived.Test.YtmfjalnlfcbdlaaRows
import Derived.WalkKit
import Derived.ProofKit
import Derived.OpenShut
import Derived.ShutString
import Derived.ChangeOld
import Derived.Below
namespace Go.Proofs.Ytmfjalnlfcbdlaa.poolNew
open Go.ChangeShapes Go.WideShapes Go.ChangeAt Go.RowKit
set_option linter.unusedVariables false      -- a walk need not use every 'w<i>' (that an integer argument fits its kind)

theorem own : ownKnob Try.prog.godebug = none := by kernel_rfl

set_option maxRecDepth 100000 in
set_option maxHeartbeats 1000000 in
theorem walk (a0 : Int) (w0 : (Lit.int .i64 a0).wf = true) (w : World) :
    Calls Try.prog 3 #[.int .i64 a0] w fun e w' => e = .returned (.bool true) ∧ Below w.heap.size w w' := by
  have h0 := bounds_i64 w0
  clear w0
  by_cases hb : a0 < 1 ∨ 200 < a0
  · have HB : Hid (a0 < 1 ∨ 200 < a0) := hb
    clear hb
    go_enter Try.func3, Try.ntmps3
    go_wp2_with fail
    refine (new_bad a0 h0 HB.out _).mono ?_
    rintro e u1 ⟨rfl, rfl⟩
    go_wp2_with fail
    refine (known_any _).mono ?_
    rintro e u2 ⟨rfl, b2⟩
    go_wp2_with fail
    all_goals
      go_ret
      exact ⟨ret_bool (by first | rfl | (have := HB.out; simp; omega)), b2⟩
  · obtain ⟨n, rfl⟩ := Int.eq_ofNat_of_zero_le (a := a0) (by omega)
    have h1 : 1 ≤ n := by omega
    have h2 : n ≤ 200 := by omega
    clear hb h0
    go_enter Try.func3, Try.ntmps3
    go_wp2_with fail
    refine (m_new (w0 := w) n ⟨h1, h2⟩ (Below.refl _ _) (G := fun _ => False) nothing).mono ?_
    rintro e u1 ⟨p, rfl, m1, _⟩
    have H1 : Hid (Solo w u1 p n (none_ n) (down n)) := m1
    clear m1
    go_wp2_with fail
    refine (m_get_no H1.out (z := 0) (by omega) look_new).mono ?_
    rintro e u2 ⟨rfl, m2, _⟩
    have H2 : Hid (Solo w u2 p n (none_ n) (down n)) := m2
    clear m2 H1
    go_wp2_with fail
    refine (known_any _).mono ?_
    rintro e u3 ⟨rfl, b3⟩
    have H3 : Hid (Solo w u3 p n (none_ n) (down n)) := (H2.out.on (fresh _ _)).on b3
    clear b3 H2
    go_wp2_with fail
    refine (m_free H3.out n (down_length n)).mono ?_
    rintro e u3 ⟨rfl, rfl⟩
    go_wp2_with fail
    refine (m_drop_no H3.out (z := 0) (by omega) look_new).mono ?_
    rintro e u3 ⟨rfl, rfl⟩
    go_wp2_with fail
    refine (m_drop_no H3.out (z := -1) (by omega) look_new).mono ?_
    rintro e u3 ⟨rfl, rfl⟩
    go_wp2_with fail
    refine (m_drop_no H3.out (z := n) (by omega) look_new).mono ?_
    rintro e u3 ⟨rfl, rfl⟩
    go_wp2_with fail
    go_ret
    exact ⟨ret_bool (by simp), H3.out.below⟩

set_option maxRecDepth 100000 in
theorem lifted (os : Os) (started : os.Started) (H : Type) (enc : TypeId × Value → H) :
    ReturnsInHanded {} Try.checked os 3 .any (Rows.poolNewSpec.pre6 enc Try.prog Try.f3 Rows.poolNewRow.domain false) (Rows.poolNewSpec.post enc Try.prog Try.f3 false true false false) := by
  refine returnsInHanded_of_change (C := Try.checked) own started (by kernel_rfl) Try.func3
    (ChangeSpec.witness6 (enc := enc) (C := Try.checked) false ⟨#[], #[.int .i64 0], []⟩ 8 (by kernel_rfl) (by kernel_rfl) (by kernel_rfl) (by kernel_rfl)) ?_
  intro W base args ds gs before hval0 hW hcnd _
  have hval : ∀ (j : Nat) t v, Try.f3.params[j]? = some t → args[j]? = some v → Value.okWide Try.prog W .any base t v := hval0
  have hW' := hW
  obtain ⟨p, q, hA0, hV, rfl, hfz, hnd⟩ := hW
  have hA : DataW.TrodAll enc Try.prog W 0 (fun _ => true) true Try.f3.params.toList args.toList ds p := hA0
  rw [Try.params3] at hA hval
  obtain ⟨v0, vs0, d0, ds0, p0, q0, hargs, rfl, rfl, h0, r0⟩ := trodAll_cons hA
  obtain ⟨rfl, rfl, rfl⟩ := trodAll_nil r0
  obtain rfl : args = #[v0] := by cases args; simp_all
  obtain ⟨rfl, rfl⟩ := trodVars_none hV
  obtain ⟨a0, rfl, rfl, rfl, w0⟩ := open_int Try.underlying3 (hval 0 3 v0 rfl rfl) h0
  clear hA0 hval0
  refine (walk a0 w0 W).mono fun e W' ⟨he, bel⟩ => ?_
  subst he
  exact ⟨_, rfl, _, _, _, [], _, [], hW', trodAll_mk1 (shut_bool Try.underlying4 _), (trodAll_cons_mk (shut_int Try.underlying3 w0) trodAll_mk0), rfl, bel.frame _, fun h => by cases h⟩

theorem over : Rows.poolNewRow.holds Try.pinned (OpenSpec.ofChange Rows.poolNewSpec) :=
  OpenClaim.holds_of_wide 3 Try.f3 rfl rfl rfl rfl rfl rfl rfl ⟨rfl, rfl, rfl, rfl, rfl⟩ rfl rfl rfl rfl rfl (by kernel_rfl) Try.func3 (by kernel_rfl)
    (of_decide_eq_true (by kernel_rfl)) (by unfold Func.isWrapper; first | (rw [if_pos (by decide +kernel)]; kernel_rfl) | (rw [if_neg (by decide +kernel)]; exact ⟨rfl, rfl⟩))
    (fun os started H enc _ => lifted os started H enc)

theorem proved : Rows.PoolNewSaid :=
  over
#print axioms proved
end Go.Proofs.Ytmfjalnlfcbdlaa.poolNew
