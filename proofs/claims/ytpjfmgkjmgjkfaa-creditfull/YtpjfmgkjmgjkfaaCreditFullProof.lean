/-
  For every number and every slice of bytes, the law CreditFull of package shunterlaw05 returns true and leaves its arguments as they were. Conditions: none.
-/
import Derived.Test.YtpjfmgkjmgjkfaaCreditB
import Derived.Test.YtpjfmgkjmgjkfaaRows
import Derived.WalkKit
import Derived.ProofKit
import Derived.OpenShut
import Derived.ShutString
import Derived.ChangeOld
import Derived.Below
namespace Go.Proofs.Ytpjfmgkjmgjkfaa.creditFull
open Go.ChangeShapes Go.WideShapes Go.ChangeAt Go.RowKit
open Go.ChangeMaps (open_string shut_string)
set_option linter.unusedVariables false

theorem own : ownKnob Try.prog.godebug = none := by kernel_rfl
theorem laidOut : laidOutB Try.prog = true := by kernel_rfl

/-- WHAT THE WALK IS TOLD OF A SLICE OF INTEGERS THAT CAME IN: it is nil; or it leads to a row of 'cap' cells, the numbers 'zs' (the first 'len' are its elements, the rest its spare room), each fitting its kind. -/
def IsRow (k : IntKind) (w : World) (a : Option Addr) (len cap : Nat) (zs : List Int) : Prop :=
  (a = none ∧ len = 0 ∧ cap = 0 ∧ zs = []) ∨
  ∃ x, a = some x ∧ len ≤ cap ∧ cap ≤ maxLen ∧ zs.length = cap ∧ (∀ i, i < zs.length → w.cell? (x.add i) = some (.int k (zs.getD i 0))) ∧ ∀ n ∈ zs, (Lit.int k n).wf = true

theorem wrap16 (x : Int) : 0 ≤ IntKind.u16.wrap x ∧ IntKind.u16.wrap x ≤ 65535 := by rw [IntKind.wrap_u16]; omega
set_option maxHeartbeats 1000000 in
theorem walk (a0 : Int) (a1 : Option Addr) (len1 cap1 : Nat) (z1 : List Int) (w : World) (w0 : (Lit.int .u32 a0).wf = true) (w1 : IsRow .u8 w a1 len1 cap1 z1) :
    Calls Try.prog 5 #[.int .u32 a0, .slice a1 len1 cap1] w fun e w' => e = .returned (.bool true) ∧ Below w.heap.size w w' := by
  obtain ⟨h00, h01⟩ := bounds_u32 w0
  obtain ⟨l, hl⟩ : ∃ l, Octs w a1 len1 l := ⟨_, octs_of w1⟩
  have HL : Hid (Octs w a1 len1 l) := hl
  have hlm := hl.2.1
  clear hl w0 w1
  by_cases hb : 200 < len1
  · go_enter Try.func5, Try.ntmps5
    go_wp2_with fail
    refine (new_good a0 2 (by omega) (by omega) w _ (Below.refl _ _)).mono ?_
    rintro e u1 ⟨p, rfl, m1⟩
    have H1 : Hid (Mine w u1 p a0 (a0 + 2)) := m1
    clear m1
    go_wp2_with fail
    refine (known_any _).mono ?_
    rintro e u2 ⟨rfl, b2⟩
    go_wp2_with fail
    go_ret
    exact ⟨rfl, (H1.out.on b2).below⟩
  · go_enter Try.func5, Try.ntmps5
    go_wp2_with fail
    refine (new_good a0 2 (by omega) (by omega) w _ (Below.refl _ _)).mono ?_
    rintro e u1 ⟨p, rfl, m1⟩
    have H1 : Hid (Mine w u1 p a0 (a0 + 2)) := m1
    clear m1
    go_wp2_with fail
    go_loopw [6] (fun i wr => ∃ (k : Nat) (s t : Int), k ≤ len1 ∧ i = .int .i64 k ∧ s ≤ a0 + k ∧ Mine w wr p s t) (fun i _ => len1 - (intOf i).toNat)
    case atStart => exact ⟨0, a0, a0 + 2, Nat.zero_le _, rfl, by omega, H1.out⟩
    case round =>
      obtain ⟨k, s, t, hk, rfl, hs, hm⟩ := hrel
      have HM : Hid (Mine w wr p s t) := hm
      have hs0 := hm.1.s0
      have hst := hm.1.sl
      have ht8 := hm.1.l8
      clear hm H1
      by_cases hkl : k < len1
      · obtain ⟨b, off, c, rfl, hc8, hcc⟩ := (HL.out.below HM.out.below).byte hkl
        by_cases hev : c % 2 = 0
        · have he : ((c : Int) % 2 == 0) = true := by simp; omega
          go_wp2_with fail
          refine (next_any HM.out (by omega)).mono ?_
          rintro e u2 ⟨x, y, s', rfl, m2, h1, h2, h3⟩
          have HM2 : Hid (Mine w u2 p s' t) := m2
          clear m2 HM h3
          go_wp2_with fail
          go_roundw
          case rel => exact ⟨k + 1, s', t, by omega, by go_num, by omega, HM2.out⟩
          case measure => simp [intOf]; omega
        · have he : ((c : Int) % 2 == 0) = false := by simp; omega
          have HD : Hid (Mine w wr.drew p s t) := HM.out.on (drewN_below _ 1)
          have hs2 : s ≤ 4611686018427387904 := by omega
          clear HM
          go_wp2_with fail
          go_region_with (first | (go_at_call 11; refine (sent_any HD.out).mono ?_; rintro e w' ⟨rfl, rfl⟩) | (go_at_call 14; refine (hear_any HD.out _ (wrap16 _) hs2).mono ?_; rintro e u2 ⟨y, t', rfl, m2, h1⟩))
          all_goals
            have HM2 : Hid (Mine w u2 p s t') := m2
            clear m2 HD
            go_wp2_with fail
            go_roundw
            case rel => exact ⟨k + 1, s, t', by omega, by go_num, by omega, HM2.out⟩
            case measure => simp [intOf]; omega
      · go_wp2_with fail
        refine (limit_any HM.out).mono ?_
        rintro e u2 ⟨rfl, rfl⟩
        go_wp2_with fail
        have hr20 : s ≤ t := hst
        go_loopw [8] (fun i v => ∃ (j : Nat) (r : Int), j ≤ 20 ∧ i = .int .i64 j ∧ s ≤ r ∧ r ≤ s + j ∧ (r < t → r = s + j) ∧ Mine w v p r t) (fun i _ => 20 - (intOf i).toNat)
        case atStart => exact ⟨0, s, by omega, rfl, by omega, by omega, by omega, HM.out⟩
        case round =>
          obtain ⟨j, r, hj, rfl, hr0, hr1, hr2, hm⟩ := hrel
          have HM1 : Hid (Mine w wr p r t) := hm
          have hrt := hm.1.sl
          clear hm HM
          by_cases hjl : j < 20
          · go_wp2_with fail
            refine (next_any HM1.out (by omega)).mono ?_
            rintro e u2 ⟨x, y, s', rfl, m2, h1, h2, h3⟩
            have HM2 : Hid (Mine w u2 p s' t) := m2
            have hle := m2.1.sl
            clear m2 HM1
            go_wp2_with fail
            go_roundw
            case rel => exact ⟨j + 1, s', by omega, by go_num, by omega, by omega, by omega, HM2.out⟩
            case measure => simp [intOf]; omega
          · obtain rfl : r = t := by omega
            go_wp2_with fail
            refine (known_any _).mono ?_
            rintro e u2 ⟨rfl, b2⟩
            have H2 : Hid (Mine w u2 p r r) := HM1.out.on b2
            clear b2 HM1
            go_wp2_with fail
            refine (sent_any H2.out).mono ?_
            rintro e u3 ⟨rfl, rfl⟩
            go_wp2_with fail
            refine (usable_any H2.out 0 (by omega)).mono ?_
            rintro e u4 ⟨rfl, m4⟩
            have H4 : Hid (Mine w u4 p r r) := m4
            clear m4 H2
            go_wp2_with fail
            go_ret
            exact ⟨ret_bool (by simp), H4.out.below⟩

set_option maxRecDepth 100000 in
theorem lifted (os : Os) (started : os.Started) (H : Type) (enc : TypeId × Value → H) :
    ReturnsInHanded {} Try.checked os 5 .any (Rows.creditFullSpec.pre6 enc Try.prog Try.f5 Rows.creditFullRow.domain false) (Rows.creditFullSpec.post enc Try.prog Try.f5 false true false false) := by
  refine returnsInHanded_of_change (C := Try.checked) own started (by kernel_rfl) Try.func5
    (ChangeSpec.witness6 (enc := enc) (C := Try.checked) false ⟨#[], #[.int .u32 0, .slice none 0 0], []⟩ 8 (by kernel_rfl) (by kernel_rfl) (by kernel_rfl) (by kernel_rfl)) ?_
  intro W base args ds gs before hval0 hW hcnd _
  have hval : ∀ (j : Nat) t v, Try.f5.params[j]? = some t → args[j]? = some v → Value.okWide Try.prog W .any base t v := hval0
  have hW' := hW
  obtain ⟨p, q, hA0, hV, rfl, hfz, hnd⟩ := hW
  have hA : DataW.TrodAll enc Try.prog W 0 (fun _ => true) true Try.f5.params.toList args.toList ds p := hA0
  rw [Try.params5] at hA hval
  obtain ⟨v0, vs0, d0, ds0, p0, q0, hargs, rfl, rfl, h0, r0⟩ := trodAll_cons hA
  obtain ⟨v1, vs1, d1, ds1, p1, q1, rfl, rfl, rfl, h1, r1⟩ := trodAll_cons r0
  obtain ⟨rfl, rfl, rfl⟩ := trodAll_nil r1
  obtain rfl : args = #[v0, v1] := by cases args; simp_all
  obtain ⟨rfl, rfl⟩ := trodVars_none hV
  obtain ⟨a0, rfl, rfl, rfl, w0⟩ := open_int Try.underlying29 (hval 0 29 v0 rfl rfl) h0
  obtain ⟨a1, len1, cap1, rfl⟩ := okWide_slice Try.underlying33 (hval 1 33 v1 rfl rfl)
  have k1 := h1
  have lt1 : ∀ x ∈ p1, x.block < W.heap.size := by obtain ⟨m, hm⟩ := k1; exact DataW.trod_lt m _ _ _ hm
  obtain ⟨z1, w1⟩ : ∃ zs, IsRow .u8 W a1 len1 cap1 zs := by
    obtain ⟨fuel, hf⟩ := h1
    rcases open_ints Try.underlying33 Try.underlying5 (by kernel_rfl) hf with ⟨hcs, _⟩ | ⟨x, l, c, zs, hcs, _, hl, hm, hz, _, hcell, hwz⟩
    · simp [Value.cells] at hcs
      obtain ⟨rfl, rfl, rfl⟩ := hcs
      exact ⟨[], .inl ⟨rfl, rfl, rfl, rfl⟩⟩
    · simp [Value.cells] at hcs
      obtain ⟨rfl, rfl, rfl⟩ := hcs
      exact ⟨zs, .inr ⟨_, rfl, hl, hm, by simpa using hz, hcell, hwz⟩⟩
  clear hA0 hval0
  refine (walk a0 a1 len1 cap1 z1 W w0 w1).mono fun e W' ⟨he, bel⟩ => ?_
  subst he
  exact ⟨_, rfl, _, _, _, [], _, [], hW', trodAll_mk1 (shut_bool Try.underlying4 _), (trodAll_cons_mk (shut_int Try.underlying29 w0) (trodAll_cons_mk (Below.trod laidOut (by kernel_rfl) (of_decide_eq_true (by kernel_rfl)) k1 bel lt1) trodAll_mk0)), rfl, bel.frame _, fun h => by cases h⟩

theorem over : Rows.creditFullRow.holds Try.pinned (OpenSpec.ofChange Rows.creditFullSpec) :=
  OpenClaim.holds_of_wide 5 Try.f5 rfl rfl rfl rfl rfl rfl rfl ⟨rfl, rfl, rfl, rfl, rfl⟩ rfl rfl rfl rfl rfl (by kernel_rfl) Try.func5 (by kernel_rfl)
    (of_decide_eq_true (by kernel_rfl)) (by unfold Func.isWrapper; first | (rw [if_pos (by decide +kernel)]; kernel_rfl) | (rw [if_neg (by decide +kernel)]; exact ⟨rfl, rfl⟩))
    (fun os started H enc _ => lifted os started H enc)

theorem proved : Rows.CreditFullSaid := over
#print axioms proved
end Go.Proofs.Ytpjfmgkjmgjkfaa.creditFull
