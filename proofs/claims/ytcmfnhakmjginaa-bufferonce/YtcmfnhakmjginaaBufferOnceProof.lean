/-
  For every two numbers and every slice of bytes, the law BufferOnce of package shunterlaw06 returns true and leaves its arguments as they were. Conditions: none.
-/
import Derived.Test.YtcmfnhakmjginaaBufferB
import Derived.Test.YtcmfnhakmjginaaRows
import Derived.WalkKit
import Derived.ProofKit
import Derived.OpenShut
import Derived.ShutString
import Derived.ChangeOld
import Derived.Below
namespace Go.Proofs.Ytcmfnhakmjginaa.bufferOnce
open Go.ChangeShapes Go.WideShapes Go.ChangeAt Go.RowKit
open Go.ChangeMaps (open_string shut_string)
set_option linter.unusedVariables false

theorem own : ownKnob Try.prog.godebug = none := by kernel_rfl
theorem laidOut : laidOutB Try.prog = true := by kernel_rfl

/-- WHAT THE WALK IS TOLD OF A SLICE OF INTEGERS THAT CAME IN: it is nil; or it leads to a row of 'cap' cells, the numbers 'zs' (the first 'len' are its elements, the rest its spare room), each fitting its kind. -/
def IsRow (k : IntKind) (w : World) (a : Option Addr) (len cap : Nat) (zs : List Int) : Prop :=
  (a = none ∧ len = 0 ∧ cap = 0 ∧ zs = []) ∨
  ∃ x, a = some x ∧ len ≤ cap ∧ cap ≤ maxLen ∧ zs.length = cap ∧ (∀ i, i < zs.length → w.cell? (x.add i) = some (.int k (zs.getD i 0))) ∧ ∀ n ∈ zs, (Lit.int k n).wf = true

set_option maxRecDepth 100000 in
set_option maxHeartbeats 1000000 in
theorem walk (a0 : Int) (a1 : Int) (a2 : Option Addr) (len2 cap2 : Nat) (z2 : List Int) (w : World) (w0 : (Lit.int .u32 a0).wf = true) (w1 : (Lit.int .u8 a1).wf = true) (w2 : IsRow .u8 w a2 len2 cap2 z2) :
    Calls Try.prog 7 #[.int .u32 a0, .int .u8 a1, .slice a2 len2 cap2] w fun e w' => e = .returned (.bool true) ∧ Below w.heap.size w w' := by
  obtain ⟨h00, h01⟩ := bounds_u32 w0
  obtain ⟨h10, h11⟩ := bounds_u8 w1
  obtain ⟨l, hl⟩ : ∃ l, Octs w a2 len2 l := ⟨_, octs_of w2⟩
  have HL : Hid (Octs w a2 len2 l) := hl
  have hlm := hl.2.1
  clear hl w0 w1 w2
  by_cases hb : 200 < len2
  · go_enter Try.func7, Try.ntmps7
    go_wp2_with fail
    refine (m_new a0 (1 + a1 % 8) (by omega) (by omega) w _ (Below.refl _ _)).mono ?_
    rintro e u1 ⟨p, rfl, m1⟩
    have H1 : Hid (Mine w u1 p a0 (1 + a1 % 8) 0) := m1
    clear m1
    go_wp2_with fail
    refine (known_any _).mono ?_
    rintro e u2 ⟨rfl, b2⟩
    go_wp2_with fail
    go_ret
    exact ⟨rfl, (H1.out.on b2).below⟩
  · go_enter Try.func7, Try.ntmps7
    go_wp2_with fail
    refine (m_new a0 (1 + a1 % 8) (by omega) (by omega) w _ (Below.refl _ _)).mono ?_
    rintro e u1 ⟨p, rfl, m1⟩
    have H1 : Hid (Mine w u1 p a0 (1 + a1 % 8) 0) := m1
    clear m1
    go_wp2_with fail
    go_loopw [9, 10, 11, 12, 13, 14] (fun la i _ _ _ _ wr => ∃ (k : Nat) (n h t : Int), k ≤ len2 ∧ i = .int .i64 k ∧ la = .int .u64 t ∧ 0 ≤ t ∧ t ≤ n ∧ a0 ≤ n ∧ n ≤ a0 + 8 * k ∧ Mine w wr p n (1 + a1 % 8) h) (fun _ i _ _ _ _ _ => len2 - (intOf i).toNat)
    case atStart => exact ⟨0, a0, 0, 0, Nat.zero_le _, rfl, rfl, by omega, by omega, by omega, by omega, H1.out⟩
    case round =>
      obtain ⟨k, n, h, t, hk, rfl, rfl, ht0, htn, hn0, hn8, hm⟩ := hrel
      have HM : Hid (Mine w wr p n (1 + a1 % 8) h) := hm
      have hh0 := hm.1.h0
      have hhr := hm.1.hr
      clear hm H1
      by_cases hkl : k < len2
      · obtain ⟨b, off, c, rfl, hc8, hcw⟩ := HL.out.byte hkl
        have CW : Hid (∀ u, Below w.heap.size w u → u.cell? ⟨b, off + k, none⟩ = some (.int .u8 (c : Nat))) := fun u hu => (hu.cell (p := ⟨b, off + k, none⟩) (cell_lt hcw)).trans hcw
        have hcc := CW.out wr HM.out.below
        clear hcw
        by_cases hst : a0 + (c : Int) % 40 < n
        · have hst2 : ¬ n ≤ a0 + (c : Int) % 40 := by omega
          go_wp2_with fail
          refine (m_expects HM.out).mono ?_
          rintro e u2 ⟨rfl, rfl⟩
          go_wp2_with fail
          refine (m_limit HM.out (by omega) (n + (1 + a1 % 8 - h)) rfl).mono ?_
          rintro e u3 ⟨rfl, m3⟩
          have H3 : Hid (Mine w u3 p n (1 + a1 % 8) h) := m3
          clear m3 HM hcc
          go_wp2_with fail
          refine (m_stale H3.out (by omega) _ (a0 + (c : Int) % 40) (by first | rfl | omega) (by omega) (by omega) (by omega)).mono ?_
          rintro e u4 ⟨rfl, m4⟩
          have H4 : Hid (Mine w u4 p n (1 + a1 % 8) h) := m4
          have hcc := CW.out u4 m4.below
          clear m4 H3
          by_cases h3 : c % 3 = 0
          · have h3b : ((c : Int) % 3 == 0) = true := by simp; omega
            go_wp2_with fail
            refine (m_free_any H4.out).mono ?_
            rintro e u5 ⟨b5, h5, rfl, m5, hf1, hf2⟩
            have H5 : Hid (Mine w u5 p n (1 + a1 % 8) h5) := m5
            clear m5 H4
            go_wp2_with fail
            go_roundw
            case rel => exact ⟨k + 1, n, h5, t, by omega, by go_num, rfl, by omega, by omega, by omega, by omega, H5.out⟩
            case measure => simp [intOf]; omega
          · have h3b : ((c : Int) % 3 == 0) = false := by simp; omega
            go_wp2_with fail
            go_roundw
            case rel => exact ⟨k + 1, n, h, t, by omega, by go_num, rfl, by omega, by omega, by omega, by omega, H4.out⟩
            case measure => simp [intOf]; omega
        · by_cases hov : n + (1 + a1 % 8 - h) ≤ a0 + (c : Int) % 40
          · have hst2 : n ≤ a0 + (c : Int) % 40 := by omega
            have hov2 : ¬ a0 + (c : Int) % 40 < n + (1 + a1 % 8 - h) := by omega
            go_wp2_with fail
            refine (m_expects HM.out).mono ?_
            rintro e u2 ⟨rfl, rfl⟩
            go_wp2_with fail
            refine (m_limit HM.out (by omega) (n + (1 + a1 % 8 - h)) rfl).mono ?_
            rintro e u3 ⟨rfl, m3⟩
            have H3 : Hid (Mine w u3 p n (1 + a1 % 8) h) := m3
            clear m3 HM hcc
            go_wp2_with fail
            refine (m_over H3.out (by omega) _ (a0 + (c : Int) % 40) (by first | rfl | omega) (by omega) (by omega)).mono ?_
            rintro e u4 ⟨rfl, m4⟩
            have H4 : Hid (Mine w u4 p n (1 + a1 % 8) h) := m4
            have hcc := CW.out u4 m4.below
            clear m4 H3
            by_cases h3 : c % 3 = 0
            · have h3b : ((c : Int) % 3 == 0) = true := by simp; omega
              go_wp2_with fail
              refine (m_free_any H4.out).mono ?_
              rintro e u5 ⟨b5, h5, rfl, m5, hf1, hf2⟩
              have H5 : Hid (Mine w u5 p n (1 + a1 % 8) h5) := m5
              clear m5 H4
              go_wp2_with fail
              go_roundw
              case rel => exact ⟨k + 1, n, h5, t, by omega, by go_num, rfl, by omega, by omega, by omega, by omega, H5.out⟩
              case measure => simp [intOf]; omega
            · have h3b : ((c : Int) % 3 == 0) = false := by simp; omega
              go_wp2_with fail
              go_roundw
              case rel => exact ⟨k + 1, n, h, t, by omega, by go_num, rfl, by omega, by omega, by omega, by omega, H4.out⟩
              case measure => simp [intOf]; omega
          · have hst2 : n ≤ a0 + (c : Int) % 40 := by omega
            have hov2 : a0 + (c : Int) % 40 < n + (1 + a1 % 8 - h) := by omega
            have hlt : ¬ a0 + (c : Int) % 40 < t := by omega
            go_wp2_with fail
            refine (m_expects HM.out).mono ?_
            rintro e u2 ⟨rfl, rfl⟩
            go_wp2_with fail
            refine (m_limit HM.out (by omega) (n + (1 + a1 % 8 - h)) rfl).mono ?_
            rintro e u3 ⟨rfl, m3⟩
            have H3 : Hid (Mine w u3 p n (1 + a1 % 8) h) := m3
            clear m3 HM hcc
            go_wp2_with fail
            refine (m_ok H3.out (by omega) _ (a0 + (c : Int) % 40) (by first | rfl | omega) (by omega)).mono ?_
            rintro e u4 ⟨rfl, m4⟩
            have H4 : Hid (Mine w u4 p ((a0 + (c : Int) % 40) + 1) (1 + a1 % 8) (h + 1)) := m4
            have hcc := CW.out u4 m4.below
            clear m4 H3
            by_cases h3 : c % 3 = 0
            · have h3b : ((c : Int) % 3 == 0) = true := by simp; omega
              go_wp2_with fail
              refine (m_free_any H4.out).mono ?_
              rintro e u5 ⟨b5, h5, rfl, m5, hf1, hf2⟩
              have H5 : Hid (Mine w u5 p ((a0 + (c : Int) % 40) + 1) (1 + a1 % 8) h5) := m5
              clear m5 H4
              go_wp2_with fail
              go_roundw
              case rel => exact ⟨k + 1, ((a0 + (c : Int) % 40) + 1), h5, ((a0 + (c : Int) % 40) + 1), by omega, by go_num, rfl, by omega, by omega, by omega, by omega, H5.out⟩
              case measure => simp [intOf]; omega
            · have h3b : ((c : Int) % 3 == 0) = false := by simp; omega
              go_wp2_with fail
              go_roundw
              case rel => exact ⟨k + 1, ((a0 + (c : Int) % 40) + 1), (h + 1), ((a0 + (c : Int) % 40) + 1), by omega, by go_num, rfl, by omega, by omega, by omega, by omega, H4.out⟩
              case measure => simp [intOf]; omega
      · go_wp2_with fail
        refine (known_any _).mono ?_
        rintro e u2 ⟨rfl, b2⟩
        go_wp2_with fail
        go_ret
        exact ⟨rfl, (HM.out.on b2).below⟩

set_option maxRecDepth 100000 in
theorem lifted (os : Os) (started : os.Started) (H : Type) (enc : TypeId × Value → H) :
    ReturnsInHanded {} Try.checked os 7 .any (Rows.bufferOnceSpec.pre6 enc Try.prog Try.f7 Rows.bufferOnceRow.domain false) (Rows.bufferOnceSpec.post enc Try.prog Try.f7 false true false false) := by
  refine returnsInHanded_of_change (C := Try.checked) own started (by kernel_rfl) Try.func7
    (ChangeSpec.witness6 (enc := enc) (C := Try.checked) false ⟨#[], #[.int .u32 0, .int .u8 0, .slice none 0 0], []⟩ 8 (by kernel_rfl) (by kernel_rfl) (by kernel_rfl) (by kernel_rfl)) ?_
  intro W base args ds gs before hval0 hW hcnd _
  have hval : ∀ (j : Nat) t v, Try.f7.params[j]? = some t → args[j]? = some v → Value.okWide Try.prog W .any base t v := hval0
  have hW' := hW
  obtain ⟨p, q, hA0, hV, rfl, hfz, hnd⟩ := hW
  have hA : DataW.TrodAll enc Try.prog W 0 (fun _ => true) true Try.f7.params.toList args.toList ds p := hA0
  rw [Try.params7] at hA hval
  obtain ⟨v0, vs0, d0, ds0, p0, q0, hargs, rfl, rfl, h0, r0⟩ := trodAll_cons hA
  obtain ⟨v1, vs1, d1, ds1, p1, q1, rfl, rfl, rfl, h1, r1⟩ := trodAll_cons r0
  obtain ⟨v2, vs2, d2, ds2, p2, q2, rfl, rfl, rfl, h2, r2⟩ := trodAll_cons r1
  obtain ⟨rfl, rfl, rfl⟩ := trodAll_nil r2
  obtain rfl : args = #[v0, v1, v2] := by cases args; simp_all
  obtain ⟨rfl, rfl⟩ := trodVars_none hV
  obtain ⟨a0, rfl, rfl, rfl, w0⟩ := open_int Try.underlying29 (hval 0 29 v0 rfl rfl) h0
  obtain ⟨a1, rfl, rfl, rfl, w1⟩ := open_int Try.underlying5 (hval 1 5 v1 rfl rfl) h1
  obtain ⟨a2, len2, cap2, rfl⟩ := okWide_slice Try.underlying42 (hval 2 42 v2 rfl rfl)
  have k2 := h2
  have lt2 : ∀ x ∈ p2, x.block < W.heap.size := by obtain ⟨m, hm⟩ := k2; exact DataW.trod_lt m _ _ _ hm
  obtain ⟨z2, w2⟩ : ∃ zs, IsRow .u8 W a2 len2 cap2 zs := by
    obtain ⟨fuel, hf⟩ := h2
    rcases open_ints Try.underlying42 Try.underlying5 (by kernel_rfl) hf with ⟨hcs, _⟩ | ⟨x, l, c, zs, hcs, _, hl, hm, hz, _, hcell, hwz⟩
    · simp [Value.cells] at hcs
      obtain ⟨rfl, rfl, rfl⟩ := hcs
      exact ⟨[], .inl ⟨rfl, rfl, rfl, rfl⟩⟩
    · simp [Value.cells] at hcs
      obtain ⟨rfl, rfl, rfl⟩ := hcs
      exact ⟨zs, .inr ⟨_, rfl, hl, hm, by simpa using hz, hcell, hwz⟩⟩
  clear hA0 hval0
  refine (walk a0 a1 a2 len2 cap2 z2 W w0 w1 w2).mono fun e W' ⟨he, bel⟩ => ?_
  subst he
  exact ⟨_, rfl, _, _, _, [], _, [], hW', trodAll_mk1 (shut_bool Try.underlying4 _), (trodAll_cons_mk (shut_int Try.underlying29 w0) (trodAll_cons_mk (shut_int Try.underlying5 w1) (trodAll_cons_mk (Below.trod laidOut (by kernel_rfl) (of_decide_eq_true (by kernel_rfl)) k2 bel lt2) trodAll_mk0))), rfl, bel.frame _, fun h => by cases h⟩

theorem over : Rows.bufferOnceRow.holds Try.pinned (OpenSpec.ofChange Rows.bufferOnceSpec) :=
  OpenClaim.holds_of_wide 7 Try.f7 rfl rfl rfl rfl rfl rfl rfl ⟨rfl, rfl, rfl, rfl, rfl⟩ rfl rfl rfl rfl rfl (by kernel_rfl) Try.func7 (by kernel_rfl)
    (of_decide_eq_true (by kernel_rfl)) (by unfold Func.isWrapper; first | (rw [if_pos (by decide +kernel)]; kernel_rfl) | (rw [if_neg (by decide +kernel)]; exact ⟨rfl, rfl⟩))
    (fun os started H enc _ => lifted os started H enc)

theorem proved : Rows.BufferOnceSaid := over
#print axioms proved
end Go.Proofs.Ytcmfnhakmjginaa.bufferOnce
