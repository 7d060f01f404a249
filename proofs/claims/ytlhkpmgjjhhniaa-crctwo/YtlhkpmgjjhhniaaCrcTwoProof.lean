/-
  For every slice of bytes and every two numbers of sixteen bits, the law CrcTwo of package shunterlaw02 returns true and leaves its arguments as they were. Conditions: none.
-/
import Derived.Test.YtlhkpmgjjhhniaaCrcMath
import Derived.Test.YtlhkpmgjjhhniaaCrcCalls
import Derived.Test.YtlhkpmgjjhhniaaCrcKnown
import Derived.Test.YtlhkpmgjjhhniaaCrcOwn
import Derived.Test.YtlhkpmgjjhhniaaRows
import Derived.WalkKit
import Derived.ProofKit
import Derived.OpenShut
import Derived.ShutString
import Derived.ChangeOld
import Derived.Below
namespace Go.Proofs.Ytlhkpmgjjhhniaa.crcTwo
open Go.ChangeShapes Go.WideShapes Go.ChangeAt Go.RowKit
open Go.ChangeMaps (open_string shut_string)
set_option linter.unusedVariables false

theorem own : ownKnob Try.prog.godebug = none := by kernel_rfl
theorem laidOut : laidOutB Try.prog = true := by kernel_rfl

/-- WHAT THE WALK IS TOLD OF A SLICE OF INTEGERS THAT CAME IN: it is nil; or it leads to a row of 'cap' cells, the numbers 'zs' (the first 'len' are its elements, the rest its spare room), each fitting its kind. -/
def IsRow (k : IntKind) (w : World) (a : Option Addr) (len cap : Nat) (zs : List Int) : Prop :=
  (a = none ∧ len = 0 ∧ cap = 0 ∧ zs = []) ∨
  ∃ x, a = some x ∧ len ≤ cap ∧ cap ≤ maxLen ∧ zs.length = cap ∧ (∀ i, i < zs.length → w.cell? (x.add i) = some (.int k (zs.getD i 0))) ∧ ∀ n ∈ zs, (Lit.int k n).wf = true

set_option maxHeartbeats 1000000 in
theorem walk (a0 : Option Addr) (len0 cap0 : Nat) (z0 : List Int) (a1 : Int) (a2 : Int) (w : World) (w0 : IsRow .u8 w a0 len0 cap0 z0) (w1 : (Lit.int .u16 a1).wf = true) (w2 : (Lit.int .u16 a2).wf = true) :
    Calls Try.prog 5 #[.slice a0 len0 cap0, .int .u16 a1, .int .u16 a2] w fun e w' => e = .returned (.bool true) ∧ Below w.heap.size w w' := by
  obtain ⟨l, hl⟩ : ∃ l, Octs w a0 len0 l := ⟨_, octs_of w0⟩
  have HL : Hid (Octs w a0 len0 l) := hl
  have HN : Hid (a0 = none → len0 = 0 ∧ cap0 = 0) := nil_of w0
  have b1 := bounds_u16 w1
  have b2 := bounds_u16 w2
  obtain ⟨A, rfl⟩ := Int.eq_ofNat_of_zero_le b1.1
  obtain ⟨B, rfl⟩ := Int.eq_ofNat_of_zero_le b2.1
  have hA : A < 65536 := by omega
  have hB : B < 65536 := by omega
  clear hl w0 w1 w2 b1 b2
  by_cases hb : 1000 < len0
  · go_enter Try.func5, Try.ntmps5
    go_wp2_with (go_at_call 11; refine (known_any _).mono ?_; rintro e w' ⟨rfl, hbel⟩)
    go_ret
    exact ⟨rfl, hbel⟩
  · go_enter Try.func5, Try.ntmps5
    go_wp2_with fail
    refine (known_any _).mono ?_
    rintro e u1 ⟨rfl, h1⟩
    go_wp2_with (first | (at_builtin; refine wpList_append_bytes rfl (.tmp 17) (.tmp 18) rfl u1.heap.size none 0 0 [] rfl (Own.empty _ _) a0 len0 cap0 l rfl (HL.out.below h1) HN.out (by omega) (Nat.le_refl _) len0 (by omega) l rfl ?_; intro ax cx u2 hown2 hb2) | (at_builtin; refine wpList_append_bytes rfl (.tmp 20) (.tmp 27) rfl u1.heap.size ax len0 cx l rfl (hown2.alloc _) _ 2 2 [A / 256, A % 256] rfl (two_is u2 _ _ _ _ (by omega) (by omega) (by omega) (by omega)) (fun h => by cases h) (by omega) (by have := hb2.size; simp; omega) (len0 + 2) rfl _ rfl ?_; intro ax3 cx3 u3 hown3 hb3; have h3 : Below w.heap.size w u3 := later h1 ((later hb2 (fresh _ _)).trans hb3)) | (at_builtin; refine wpList_append_bytes rfl (.tmp 29) (.tmp 30) rfl u3.heap.size none 0 0 [] rfl (Own.empty _ _) a0 len0 cap0 l rfl (HL.out.below h3) HN.out (by omega) (Nat.le_refl _) len0 (by omega) l rfl ?_; intro ay cy u4 hown4 hb4) | (at_builtin; refine wpList_append_bytes rfl (.tmp 32) (.tmp 39) rfl u3.heap.size ay len0 cy l rfl (hown4.alloc _) _ 2 2 [B / 256, B % 256] rfl (two_is u4 _ _ _ _ (by omega) (by omega) (by omega) (by omega)) (fun h => by cases h) (by omega) (by have := hb4.size; simp; omega) (len0 + 2) rfl _ rfl ?_; intro ay5 cy5 u5 hown5 hb5))
    have h5 : Below u3.heap.size u3 u5 := (later hb4 (fresh _ _)).trans hb5
    refine (sum_any _ _ _ (l ++ [A / 256, A % 256]) _ (hown3.octs.below h5)).mono ?_
    rintro e u6 ⟨rfl, h6⟩
    go_wp2_with fail
    refine (sum_any _ _ _ (l ++ [B / 256, B % 256]) _ (hown5.below h6).octs).mono ?_
    rintro e u7 ⟨rfl, h7⟩
    go_wp2_with fail
    go_ret
    exact ⟨ret_bool (eq_eq (Crc.crc_tail2 HL.out.2.2.1 hA hB)), later (later (later h3 h5) h6) h7⟩

set_option maxRecDepth 100000 in
theorem lifted (os : Os) (started : os.Started) (H : Type) (enc : TypeId × Value → H) :
    ReturnsInHanded {} Try.checked os 5 .any (Rows.crcTwoSpec.pre6 enc Try.prog Try.f5 Rows.crcTwoRow.domain false) (Rows.crcTwoSpec.post enc Try.prog Try.f5 false true false false) := by
  refine returnsInHanded_of_change (C := Try.checked) own started (by kernel_rfl) Try.func5
    (ChangeSpec.witness6 (enc := enc) (C := Try.checked) false ⟨#[], #[.slice none 0 0, .int .u16 0, .int .u16 0], []⟩ 8 (by kernel_rfl) (by kernel_rfl) (by kernel_rfl) (by kernel_rfl)) ?_
  intro W base args ds gs before hval0 hW hcnd _
  have hval : ∀ (j : Nat) t v, Try.f5.params[j]? = some t → args[j]? = some v → Value.okWide Try.prog W .any base t v := hval0
  have hW' := hW
  obtain ⟨p, q, hA0, hV, rfl, hfz, hnd⟩ := hW
  have hA : DataW.TrodAll enc Try.prog W 0 (fun _ => true) true Try.f5.params.toList args.toList ds p := hA0
  rw [Try.params5] at hA hval
  obtain ⟨v0, vs0, d0, ds0, p0, q0, hargs, rfl, rfl, h0, r0⟩ := trodAll_cons hA
  obtain ⟨v1, vs1, d1, ds1, p1, q1, rfl, rfl, rfl, h1, r1⟩ := trodAll_cons r0
  obtain ⟨v2, vs2, d2, ds2, p2, q2, rfl, rfl, rfl, h2, r2⟩ := trodAll_cons r1
  obtain ⟨rfl, rfl, rfl⟩ := trodAll_nil r2
  obtain rfl : args = #[v0, v1, v2] := by cases args; simp_all
  obtain ⟨rfl, rfl⟩ := trodVars_none hV
  obtain ⟨a0, len0, cap0, rfl⟩ := okWide_slice Try.underlying22 (hval 0 22 v0 rfl rfl)
  have k0 := h0
  have lt0 : ∀ x ∈ p0, x.block < W.heap.size := by obtain ⟨m, hm⟩ := k0; exact DataW.trod_lt m _ _ _ hm
  obtain ⟨z0, w0⟩ : ∃ zs, IsRow .u8 W a0 len0 cap0 zs := by
    obtain ⟨fuel, hf⟩ := h0
    rcases open_ints Try.underlying22 Try.underlying5 (by kernel_rfl) hf with ⟨hcs, _⟩ | ⟨x, l, c, zs, hcs, _, hl, hm, hz, _, hcell, hwz⟩
    · simp [Value.cells] at hcs
      obtain ⟨rfl, rfl, rfl⟩ := hcs
      exact ⟨[], .inl ⟨rfl, rfl, rfl, rfl⟩⟩
    · simp [Value.cells] at hcs
      obtain ⟨rfl, rfl, rfl⟩ := hcs
      exact ⟨zs, .inr ⟨_, rfl, hl, hm, by simpa using hz, hcell, hwz⟩⟩
  obtain ⟨a1, rfl, rfl, rfl, w1⟩ := open_int Try.underlying24 (hval 1 24 v1 rfl rfl) h1
  obtain ⟨a2, rfl, rfl, rfl, w2⟩ := open_int Try.underlying24 (hval 2 24 v2 rfl rfl) h2
  clear hA0 hval0
  refine (walk a0 len0 cap0 z0 a1 a2 W w0 w1 w2).mono fun e W' ⟨he, bel⟩ => ?_
  subst he
  exact ⟨_, rfl, _, _, _, [], _, [], hW', trodAll_mk1 (shut_bool Try.underlying4 _), (trodAll_cons_mk (Below.trod laidOut (by kernel_rfl) (of_decide_eq_true (by kernel_rfl)) k0 bel lt0) (trodAll_cons_mk (shut_int Try.underlying24 w1) (trodAll_cons_mk (shut_int Try.underlying24 w2) trodAll_mk0))), rfl, bel.frame _, fun h => by cases h⟩

theorem over : Rows.crcTwoRow.holds Try.pinned (OpenSpec.ofChange Rows.crcTwoSpec) :=
  OpenClaim.holds_of_wide 5 Try.f5 rfl rfl rfl rfl rfl rfl rfl ⟨rfl, rfl, rfl, rfl, rfl⟩ rfl rfl rfl rfl rfl (by kernel_rfl) Try.func5 (by kernel_rfl)
    (of_decide_eq_true (by kernel_rfl)) (by unfold Func.isWrapper; first | (rw [if_pos (by decide +kernel)]; kernel_rfl) | (rw [if_neg (by decide +kernel)]; exact ⟨rfl, rfl⟩))
    (fun os started H enc _ => lifted os started H enc)

theorem proved : Rows.CrcTwoSaid := over
#print axioms proved
end Go.Proofs.Ytlhkpmgjjhhniaa.crcTwo
