/-
  For every two numbers, the law PoolOnce of package shunterlaw07 returns true and leaves its arguments as they were. Conditions: none.
-/
import Derived.Test.YtmfjalnlfcbdlaaPoolD
import Derived.Test.YtmfjalnlfcbdlaaRows
import Derived.WalkKit
import Derived.ProofKit
import Derived.OpenShut
import Derived.ShutString
import Derived.ChangeOld
import Derived.Below
namespace Go.Proofs.Ytmfjalnlfcbdlaa.poolOnce
open Go.ChangeShapes Go.WideShapes Go.ChangeAt Go.RowKit
set_option linter.unusedVariables false      -- a walk need not use every 'w<i>' (that an integer argument fits its kind)

theorem own : ownKnob Try.prog.godebug = none := by kernel_rfl

set_option maxRecDepth 100000 in
set_option maxHeartbeats 1000000 in
theorem walk (a0 : Int) (a1 : Int) (w0 : (Lit.int .u8 a0).wf = true) (w1 : (Lit.int .u8 a1).wf = true) (w : World) :
    Calls Try.prog 5 #[.int .u8 a0, .int .u8 a1] w fun e w' => e = .returned (.bool true) ∧ Below w.heap.size w w' := by
  obtain ⟨h00, h01⟩ := bounds_u8 w0
  obtain ⟨h10, h11⟩ := bounds_u8 w1
  clear w0 w1
  go_enter Try.func5, Try.ntmps5
  go_wp2_with fail
  refine (m_new (w0 := w) 10 (by omega) (Below.refl _ _) (G := fun _ => False) nothing).mono ?_
  rintro e u1 ⟨p, rfl, m1, _⟩
  have H1 : Hid (Solo w u1 p 10 (none_ 10) (down 10)) := m1
  clear m1
  go_wp2_with fail
  go_loopw [6] (fun i wr => ∃ (k : Nat) (S : List (Option Pk)), (k : Int) ≤ 1 + a0 % 10 ∧ i = .int .i64 k ∧ (∀ j : Nat, j < k → S[j]? = some (some ⟨0, 0, 0, j⟩)) ∧ Solo w wr p 10 S (up 10 k)) (fun i _ => 20 - (intOf i).toNat)
  case atStart => exact ⟨0, _, by omega, rfl, fun j hj => by omega, by rw [up_zero]; exact H1.out⟩
  case round =>
    obtain ⟨k, S, hk, rfl, hS, hm⟩ := hrel
    have HS : Hid (∀ j : Nat, j < k → S[j]? = some (some ⟨0, 0, 0, j⟩)) := hS
    have HM : Hid (Solo w wr p 10 S (up 10 k)) := hm
    clear hm H1 hS
    by_cases hkl : (k : Int) < 1 + a0 % 10
    · have HM1 : Hid (Solo w wr p 10 S (up 10 (k + 1) ++ [k])) := by
        have := HM.out
        rw [up_snoc (by omega)] at this
        exact this
      clear HM
      go_wp2_with fail
      refine (m_put_some HM1.out nothing 0 0 0 k).mono ?_
      rintro e u2 ⟨rfl, m2, _⟩
      have HM2 : Hid (Solo w u2 p 10 (S.set k (some ⟨0, 0, 0, k⟩)) (up 10 (k + 1))) := m2
      have hlen : Hid (S.length = 10) := HM1.out.inv.len
      clear m2 HM1
      go_wp2_with fail
      go_roundw
      case rel =>
        refine ⟨k + 1, _, by omega, by go_num, ?_, HM2.out⟩
        intro j hj
        by_cases hjk : j = k
        · subst hjk
          rw [List.getElem?_set_self (by rw [hlen.out]; omega)]
        · rw [List.getElem?_set_ne (fun e => hjk e.symm)]
          exact HS.out j (by omega)
      case measure => simp [intOf]; omega
    · obtain ⟨K, hK⟩ := Int.eq_ofNat_of_zero_le (a := a1 % (1 + a0 % 10)) (Int.emod_nonneg _ (by omega))
      have hK2 : (K : Int) < 1 + a0 % 10 := by rw [← hK]; exact Int.emod_lt_of_pos _ (by omega)
      have hkk : (k : Int) = 1 + a0 % 10 := by omega
      have hSK : Hid (S[K]? = some (some ⟨0, 0, 0, K⟩)) := HS.out K (by omega)
      have HK : Hid ((k : Int) = 1 + a0 % 10) := hkk
      have hK9 : K < 10 := by omega
      clear hkk HS
      go_wp2_with fail
      refine (m_get_yes HM.out hSK.out).mono ?_
      rintro e u2 ⟨rfl, m2, _⟩
      dsimp only
      have H2 : Hid (Mine (fun j => j = u2.heap.size) w (u2.alloc (.cells #[.int .i64 0, .int .i64 0, .int .i64 0, .int .u32 K] 27)) p 10 S (up 10 k)) := (m2.wider (G' := fun j => j = u2.heap.size) (fun j e => .inr (by omega))).on (fresh _ _)
      have hc : (u2.alloc (.cells #[.int .i64 0, .int .i64 0, .int .i64 0, .int .u32 K] 27)).cell? ⟨u2.heap.size, 3, none⟩ = some (.int .u32 K) := by simp
      have HC : Hid ((u2.alloc (.cells #[.int .i64 0, .int .i64 0, .int .i64 0, .int .u32 K] 27)).cell? ⟨u2.heap.size, 3, none⟩ = some (.int .u32 K)) := hc
      clear m2 HM hc
      go_wp2_with fail
      generalize hW : u2.alloc (.cells #[.int .i64 0, .int .i64 0, .int .i64 0, .int .u32 K] 27) = W at H2 HC ⊢
      generalize hB : u2.heap.size = bx at H2 HC ⊢
      clear hW hB
      have hbx : bx < W.heap.size := cell_lt HC.out
      refine (m_drop_yes H2.out (fun j e => by omega) hSK.out).mono ?_
      rintro e u3 ⟨rfl, m3, s3⟩
      have hlen := H2.out.inv.len
      have H3 : Hid (Mine (fun j => j = bx) w u3 p 10 (S.set K none) (up 10 k ++ [K])) := m3
      have hc3 : u3.cell? ⟨bx, 3, none⟩ = some (.int .u32 K) := (s3.cell (p := ⟨bx, 3, none⟩) hbx (fun e => e rfl)).trans HC.out
      have hl : Hid (look (S.set K none) K = none) := look_empty (List.getElem?_set_self (by omega))
      have hbx3 : bx < u3.heap.size := cell_lt hc3
      clear m3 s3 H2 HC hlen hbx
      go_wp2_with fail
      refine (m_drop_no H3.out (by omega) hl.out).mono ?_
      rintro e u3 ⟨rfl, rfl⟩
      go_wp2_with fail
      refine (m_get_no H3.out (by omega) hl.out).mono ?_
      rintro e u4 ⟨rfl, m4, b4⟩
      have H4 : Hid (Mine (fun j => j = bx) w u4 p 10 (S.set K none) (up 10 k ++ [K])) := m4
      have HC4 : Hid (u4.cell? ⟨bx, 3, none⟩ = some (.int .u32 K)) := (b4.cell (p := ⟨bx, 3, none⟩) hbx3).trans hc3
      clear m4 b4 hc3 hbx3 H3
      go_wp2_with fail
      refine (known_any _).mono ?_
      rintro e u5 ⟨rfl, b5⟩
      have b4 : Below u4.heap.size u4 u5 := later (fresh u4 _) b5
      have H5 : Hid (Mine (fun j => j = bx) w u5 p 10 (S.set K none) (up 10 k ++ [K])) := H4.out.on b4
      have hc5 : u5.cell? ⟨bx, 3, none⟩ = some (.int .u32 K) := (b4.cell (p := ⟨bx, 3, none⟩) (cell_lt HC4.out)).trans HC4.out
      clear b4 b5 H4 HC4
      go_wp2_with fail
      refine (m_free H5.out (10 - k + 1) (by rw [List.length_append, up_length]; rfl)).mono ?_
      rintro e u5 ⟨rfl, rfl⟩
      have hq : ((10 - k + 1 : Nat) : Int) = 10 - a0 % 10 := by have := HK.out; omega
      go_wp2_with fail
      go_ret
      exact ⟨ret_bool (by simp), H5.out.below⟩

set_option maxRecDepth 100000 in
theorem lifted (os : Os) (started : os.Started) (H : Type) (enc : TypeId × Value → H) :
    ReturnsInHanded {} Try.checked os 5 .any (Rows.poolOnceSpec.pre6 enc Try.prog Try.f5 Rows.poolOnceRow.domain false) (Rows.poolOnceSpec.post enc Try.prog Try.f5 false true false false) := by
  refine returnsInHanded_of_change (C := Try.checked) own started (by kernel_rfl) Try.func5
    (ChangeSpec.witness6 (enc := enc) (C := Try.checked) false ⟨#[], #[.int .u8 0, .int .u8 0], []⟩ 8 (by kernel_rfl) (by kernel_rfl) (by kernel_rfl) (by kernel_rfl)) ?_
  intro W base args ds gs before hval0 hW hcnd _
  have hval : ∀ (j : Nat) t v, Try.f5.params[j]? = some t → args[j]? = some v → Value.okWide Try.prog W .any base t v := hval0
  have hW' := hW
  obtain ⟨p, q, hA0, hV, rfl, hfz, hnd⟩ := hW
  have hA : DataW.TrodAll enc Try.prog W 0 (fun _ => true) true Try.f5.params.toList args.toList ds p := hA0
  rw [Try.params5] at hA hval
  obtain ⟨v0, vs0, d0, ds0, p0, q0, hargs, rfl, rfl, h0, r0⟩ := trodAll_cons hA
  obtain ⟨v1, vs1, d1, ds1, p1, q1, rfl, rfl, rfl, h1, r1⟩ := trodAll_cons r0
  obtain ⟨rfl, rfl, rfl⟩ := trodAll_nil r1
  obtain rfl : args = #[v0, v1] := by cases args; simp_all
  obtain ⟨rfl, rfl⟩ := trodVars_none hV
  obtain ⟨a0, rfl, rfl, rfl, w0⟩ := open_int Try.underlying5 (hval 0 5 v0 rfl rfl) h0
  obtain ⟨a1, rfl, rfl, rfl, w1⟩ := open_int Try.underlying5 (hval 1 5 v1 rfl rfl) h1
  clear hA0 hval0
  refine (walk a0 a1 w0 w1 W).mono fun e W' ⟨he, bel⟩ => ?_
  subst he
  exact ⟨_, rfl, _, _, _, [], _, [], hW', trodAll_mk1 (shut_bool Try.underlying4 _), (trodAll_cons_mk (shut_int Try.underlying5 w0) (trodAll_cons_mk (shut_int Try.underlying5 w1) trodAll_mk0)), rfl, bel.frame _, fun h => by cases h⟩

theorem over : Rows.poolOnceRow.holds Try.pinned (OpenSpec.ofChange Rows.poolOnceSpec) :=
  OpenClaim.holds_of_wide 5 Try.f5 rfl rfl rfl rfl rfl rfl rfl ⟨rfl, rfl, rfl, rfl, rfl⟩ rfl rfl rfl rfl rfl (by kernel_rfl) Try.func5 (by kernel_rfl)
    (of_decide_eq_true (by kernel_rfl)) (by unfold Func.isWrapper; first | (rw [if_pos (by decide +kernel)]; kernel_rfl) | (rw [if_neg (by decide +kernel)]; exact ⟨rfl, rfl⟩))
    (fun os started H enc _ => lifted os started H enc)

theorem proved : Rows.PoolOnceSaid :=
  over
#print axioms proved
end Go.Proofs.Ytmfjalnlfcbdlaa.poolOnce
