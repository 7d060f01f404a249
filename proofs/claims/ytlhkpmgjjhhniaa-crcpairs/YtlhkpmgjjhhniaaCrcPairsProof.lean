/-
  For every slice of bytes, every place and every two bytes, the law CrcPairs of package shunterlaw02 returns true and leaves its arguments as they were. Conditions: none.
-/
import Derived.Test.YtlhkpmgjjhhniaaCrcMath
import Derived.Test.YtlhkpmgjjhhniaaCrcCalls
import Derived.Test.YtlhkpmgjjhhniaaCrcKnown
import Derived.Test.YtlhkpmgjjhhniaaCrcOwn
import Derived.Test.YtlhkpmgjjhhniaaRows
import Derived.WalkKit
import Derived.ProofKit
import Derived.OpenShut
import Derived.ShutString
import Derived.ChangeOld
import Derived.Below
namespace Go.Proofs.Ytlhkpmgjjhhniaa.crcPairs
open Go.ChangeShapes Go.WideShapes Go.ChangeAt Go.RowKit
open Go.ChangeMaps (open_string shut_string)
set_option linter.unusedVariables false

theorem own : ownKnob Try.prog.godebug = none := by kernel_rfl
theorem laidOut : laidOutB Try.prog = true := by kernel_rfl

/-- WHAT THE WALK IS TOLD OF A SLICE OF INTEGERS THAT CAME IN: it is nil; or it leads to a row of 'cap' cells, the numbers 'zs' (the first 'len' are its elements, the rest its spare room), each fitting its kind. -/
def IsRow (k : IntKind) (w : World) (a : Option Addr) (len cap : Nat) (zs : List Int) : Prop :=
  (a = none ∧ len = 0 ∧ cap = 0 ∧ zs = []) ∨
  ∃ x, a = some x ∧ len ≤ cap ∧ cap ≤ maxLen ∧ zs.length = cap ∧ (∀ i, i < zs.length → w.cell? (x.add i) = some (.int k (zs.getD i 0))) ∧ ∀ n ∈ zs, (Lit.int k n).wf = true

set_option maxHeartbeats 1000000 in
theorem walk (a0 : Option Addr) (len0 cap0 : Nat) (z0 : List Int) (a1 : Int) (a2 : Int) (a3 : Int) (w : World) (w0 : IsRow .u8 w a0 len0 cap0 z0) (w1 : (Lit.int .i64 a1).wf = true) (w2 : (Lit.int .u8 a2).wf = true) (w3 : (Lit.int .u8 a3).wf = true) :
    Calls Try.prog 8 #[.slice a0 len0 cap0, .int .i64 a1, .int .u8 a2, .int .u8 a3] w fun e w' => e = .returned (.bool true) ∧ Below w.heap.size w w' := by
  obtain ⟨l, hl⟩ : ∃ l, Octs w a0 len0 l := ⟨_, octs_of w0⟩
  have HL : Hid (Octs w a0 len0 l) := hl
  have HN : Hid (a0 = none → len0 = 0 ∧ cap0 = 0) := nil_of w0
  have b1 := bounds_i64 w1
  have b2 := bounds_u8 w2
  have b3 := bounds_u8 w3
  obtain ⟨X, rfl⟩ := Int.eq_ofNat_of_zero_le b2.1
  obtain ⟨Y, rfl⟩ := Int.eq_ofNat_of_zero_le b3.1
  have hX : X < 256 := by omega
  have hY : Y < 256 := by omega
  clear hl w0 w1 w2 w3 b2 b3
  by_cases hb : 1000 < len0
  · go_enter Try.func8, Try.ntmps8
    go_wp2_with (go_at_call 11; refine (known_any _).mono ?_; rintro e w' ⟨rfl, hbel⟩)
    go_ret
    exact ⟨rfl, hbel⟩
  by_cases hz : len0 < 2
  · go_enter Try.func8, Try.ntmps8
    go_wp2_with (go_at_call 11; refine (known_any _).mono ?_; rintro e w' ⟨rfl, hbel⟩)
    go_ret
    exact ⟨rfl, hbel⟩
  by_cases hxy : X = 0 ∧ Y = 0
  · obtain ⟨rfl, rfl⟩ := hxy
    go_enter Try.func8, Try.ntmps8
    go_wp2_with (go_at_call 11; refine (known_any _).mono ?_; rintro e w' ⟨rfl, hbel⟩)
    go_ret
    exact ⟨rfl, hbel⟩
  have HXY : Hid (¬ (X = 0 ∧ Y = 0)) := hxy
  by_cases hneg : a1 < 0
  · obtain ⟨C, hCe⟩ : ∃ C, C = l.getD 0 0 := ⟨_, rfl⟩
    have hC : C < 256 := by rw [hCe]; exact Oct_getD HL.out.2.2.1 _
    have HCe : Hid (C = l.getD 0 0) := hCe
    obtain ⟨D, hDe⟩ : ∃ D, D = l.getD (1) 0 := ⟨_, rfl⟩
    have hD : D < 256 := by rw [hDe]; exact Oct_getD HL.out.2.2.1 _
    have HDe : Hid (D = l.getD (1) 0) := hDe
    clear hCe hDe
    by_cases hx0 : X = 0
    · have hx1 : ((X : Int) == 0) = true := by simp; omega
      have hy1 : ((Y : Int) == 0) = false := by simp; omega
      clear hx0 hxy
      go_enter Try.func8, Try.ntmps8
      go_wp2_with fail
      refine (known_any _).mono ?_
      rintro e u1 ⟨rfl, h1⟩
      go_wp2_with (at_builtin; refine wpList_append_some rfl (.tmp 32) (.tmp 33) rfl u1.heap.size none 0 0 [] rfl (Own.empty _ _) a0 len0 cap0 l rfl (HL.out.below h1) HN.out (by omega) (Nat.le_refl _) len0 (by omega) l rfl (by omega) ?_; intro g cx u2 hown2 hg hb2; have hc2 := hown2.cell 0 (by omega); have hf2 := hown2.frozen 0; have hd2 := hown2.cell (1) (by omega); have he2 := hown2.frozen (1); rw [← HCe.out] at hc2; rw [← HDe.out] at hd2)
      have hown3 := (hown2.bent 0 C X hC hX).bent (1) D Y hD hY
      have hb3 : Below u1.heap.size u1 ((u2.setCell ⟨g, 0, none⟩ (.int .u8 (bits .xor .u8 (C : Int) (X : Int)))).setCell ⟨g, 1, none⟩ (.int .u8 (bits .xor .u8 (D : Int) (Y : Int)))) := (hb2.setCell hg _).setCell hg _
      refine (sum_any _ _ _ l _ ((HL.out.below h1).below hb3)).mono ?_
      rintro e u4 ⟨rfl, h4⟩
      go_wp2_with fail
      refine (sum_any _ _ _ _ _ (hown3.below h4).octs).mono ?_
      rintro e u5 ⟨rfl, h5⟩
      go_wp2_with fail
      go_ret
      refine ⟨ret_bool (ne_of ?_), later (later (later h1 hb3) h4) h5⟩
      rw [HCe.out, HDe.out]
      exact Crc.crc_set2 (k := 0) HL.out.2.2.1 (by rw [HL.out.1]; omega) hX hY HXY.out
    · have hx1 : ((X : Int) == 0) = false := by simp; omega
      clear hx0 hxy
      go_enter Try.func8, Try.ntmps8
      go_wp2_with fail
      refine (known_any _).mono ?_
      rintro e u1 ⟨rfl, h1⟩
      go_wp2_with (at_builtin; refine wpList_append_some rfl (.tmp 32) (.tmp 33) rfl u1.heap.size none 0 0 [] rfl (Own.empty _ _) a0 len0 cap0 l rfl (HL.out.below h1) HN.out (by omega) (Nat.le_refl _) len0 (by omega) l rfl (by omega) ?_; intro g cx u2 hown2 hg hb2; have hc2 := hown2.cell 0 (by omega); have hf2 := hown2.frozen 0; have hd2 := hown2.cell (1) (by omega); have he2 := hown2.frozen (1); rw [← HCe.out] at hc2; rw [← HDe.out] at hd2)
      have hown3 := (hown2.bent 0 C X hC hX).bent (1) D Y hD hY
      have hb3 : Below u1.heap.size u1 ((u2.setCell ⟨g, 0, none⟩ (.int .u8 (bits .xor .u8 (C : Int) (X : Int)))).setCell ⟨g, 1, none⟩ (.int .u8 (bits .xor .u8 (D : Int) (Y : Int)))) := (hb2.setCell hg _).setCell hg _
      refine (sum_any _ _ _ l _ ((HL.out.below h1).below hb3)).mono ?_
      rintro e u4 ⟨rfl, h4⟩
      go_wp2_with fail
      refine (sum_any _ _ _ _ _ (hown3.below h4).octs).mono ?_
      rintro e u5 ⟨rfl, h5⟩
      go_wp2_with fail
      go_ret
      refine ⟨ret_bool (ne_of ?_), later (later (later h1 hb3) h4) h5⟩
      rw [HCe.out, HDe.out]
      exact Crc.crc_set2 (k := 0) HL.out.2.2.1 (by rw [HL.out.1]; omega) hX hY HXY.out
  · obtain ⟨T, rfl⟩ := Int.eq_ofNat_of_zero_le (Int.not_lt.1 hneg)
    obtain ⟨K, hKe⟩ : ∃ K, K = T % (len0 - 1) := ⟨_, rfl⟩
    have hK : K + 1 < len0 := by have := Nat.mod_lt T (show 0 < len0 - 1 by omega); omega
    have hK2 : (T : Int) % ((len0 : Int) - 1) = (K : Int) := by rw [hKe, show (len0 : Int) - 1 = ((len0 - 1 : Nat) : Int) by omega]; rfl
    clear hKe
    obtain ⟨C, hCe⟩ : ∃ C, C = l.getD K 0 := ⟨_, rfl⟩
    have hC : C < 256 := by rw [hCe]; exact Oct_getD HL.out.2.2.1 _
    have HCe : Hid (C = l.getD K 0) := hCe
    obtain ⟨D, hDe⟩ : ∃ D, D = l.getD (K + 1) 0 := ⟨_, rfl⟩
    have hD : D < 256 := by rw [hDe]; exact Oct_getD HL.out.2.2.1 _
    have HDe : Hid (D = l.getD (K + 1) 0) := hDe
    clear hCe hDe
    by_cases hx0 : X = 0
    · have hx1 : ((X : Int) == 0) = true := by simp; omega
      have hy1 : ((Y : Int) == 0) = false := by simp; omega
      clear hx0 hxy
      go_enter Try.func8, Try.ntmps8
      go_wp2_with fail
      refine (known_any _).mono ?_
      rintro e u1 ⟨rfl, h1⟩
      go_wp2_with (at_builtin; refine wpList_append_some rfl (.tmp 32) (.tmp 33) rfl u1.heap.size none 0 0 [] rfl (Own.empty _ _) a0 len0 cap0 l rfl (HL.out.below h1) HN.out (by omega) (Nat.le_refl _) len0 (by omega) l rfl (by omega) ?_; intro g cx u2 hown2 hg hb2; have hc2 := hown2.cell K (by omega); have hf2 := hown2.frozen K; have hd2 := hown2.cell (K + 1) (by omega); have he2 := hown2.frozen (K + 1); rw [← HCe.out] at hc2; rw [← HDe.out] at hd2)
      have hown3 := (hown2.bent K C X hC hX).bent (K + 1) D Y hD hY
      have hb3 : Below u1.heap.size u1 ((u2.setCell ⟨g, K, none⟩ (.int .u8 (bits .xor .u8 (C : Int) (X : Int)))).setCell ⟨g, K + 1, none⟩ (.int .u8 (bits .xor .u8 (D : Int) (Y : Int)))) := (hb2.setCell hg _).setCell hg _
      refine (sum_any _ _ _ l _ ((HL.out.below h1).below hb3)).mono ?_
      rintro e u4 ⟨rfl, h4⟩
      go_wp2_with fail
      refine (sum_any _ _ _ _ _ (hown3.below h4).octs).mono ?_
      rintro e u5 ⟨rfl, h5⟩
      go_wp2_with fail
      go_ret
      refine ⟨ret_bool (ne_of ?_), later (later (later h1 hb3) h4) h5⟩
      rw [HCe.out, HDe.out]
      exact Crc.crc_set2 (k := K) HL.out.2.2.1 (by rw [HL.out.1]; omega) hX hY HXY.out
    · have hx1 : ((X : Int) == 0) = false := by simp; omega
      clear hx0 hxy
      go_enter Try.func8, Try.ntmps8
      go_wp2_with fail
      refine (known_any _).mono ?_
      rintro e u1 ⟨rfl, h1⟩
      go_wp2_with (at_builtin; refine wpList_append_some rfl (.tmp 32) (.tmp 33) rfl u1.heap.size none 0 0 [] rfl (Own.empty _ _) a0 len0 cap0 l rfl (HL.out.below h1) HN.out (by omega) (Nat.le_refl _) len0 (by omega) l rfl (by omega) ?_; intro g cx u2 hown2 hg hb2; have hc2 := hown2.cell K (by omega); have hf2 := hown2.frozen K; have hd2 := hown2.cell (K + 1) (by omega); have he2 := hown2.frozen (K + 1); rw [← HCe.out] at hc2; rw [← HDe.out] at hd2)
      have hown3 := (hown2.bent K C X hC hX).bent (K + 1) D Y hD hY
      have hb3 : Below u1.heap.size u1 ((u2.setCell ⟨g, K, none⟩ (.int .u8 (bits .xor .u8 (C : Int) (X : Int)))).setCell ⟨g, K + 1, none⟩ (.int .u8 (bits .xor .u8 (D : Int) (Y : Int)))) := (hb2.setCell hg _).setCell hg _
      refine (sum_any _ _ _ l _ ((HL.out.below h1).below hb3)).mono ?_
      rintro e u4 ⟨rfl, h4⟩
      go_wp2_with fail
      refine (sum_any _ _ _ _ _ (hown3.below h4).octs).mono ?_
      rintro e u5 ⟨rfl, h5⟩
      go_wp2_with fail
      go_ret
      refine ⟨ret_bool (ne_of ?_), later (later (later h1 hb3) h4) h5⟩
      rw [HCe.out, HDe.out]
      exact Crc.crc_set2 (k := K) HL.out.2.2.1 (by rw [HL.out.1]; omega) hX hY HXY.out

set_option maxRecDepth 100000 in
theorem lifted (os : Os) (started : os.Started) (H : Type) (enc : TypeId × Value → H) :
    ReturnsInHanded {} Try.checked os 8 .any (Rows.crcPairsSpec.pre6 enc Try.prog Try.f8 Rows.crcPairsRow.domain false) (Rows.crcPairsSpec.post enc Try.prog Try.f8 false true false false) := by
  refine returnsInHanded_of_change (C := Try.checked) own started (by kernel_rfl) Try.func8
    (ChangeSpec.witness6 (enc := enc) (C := Try.checked) false ⟨#[], #[.slice none 0 0, .int .i64 0, .int .u8 0, .int .u8 0], []⟩ 8 (by kernel_rfl) (by kernel_rfl) (by kernel_rfl) (by kernel_rfl)) ?_
  intro W base args ds gs before hval0 hW hcnd _
  have hval : ∀ (j : Nat) t v, Try.f8.params[j]? = some t → args[j]? = some v → Value.okWide Try.prog W .any base t v := hval0
  have hW' := hW
  obtain ⟨p, q, hA0, hV, rfl, hfz, hnd⟩ := hW
  have hA : DataW.TrodAll enc Try.prog W 0 (fun _ => true) true Try.f8.params.toList args.toList ds p := hA0
  rw [Try.params8] at hA hval
  obtain ⟨v0, vs0, d0, ds0, p0, q0, hargs, rfl, rfl, h0, r0⟩ := trodAll_cons hA
  obtain ⟨v1, vs1, d1, ds1, p1, q1, rfl, rfl, rfl, h1, r1⟩ := trodAll_cons r0
  obtain ⟨v2, vs2, d2, ds2, p2, q2, rfl, rfl, rfl, h2, r2⟩ := trodAll_cons r1
  obtain ⟨v3, vs3, d3, ds3, p3, q3, rfl, rfl, rfl, h3, r3⟩ := trodAll_cons r2
  obtain ⟨rfl, rfl, rfl⟩ := trodAll_nil r3
  obtain rfl : args = #[v0, v1, v2, v3] := by cases args; simp_all
  obtain ⟨rfl, rfl⟩ := trodVars_none hV
  obtain ⟨a0, len0, cap0, rfl⟩ := okWide_slice Try.underlying22 (hval 0 22 v0 rfl rfl)
  have k0 := h0
  have lt0 : ∀ x ∈ p0, x.block < W.heap.size := by obtain ⟨m, hm⟩ := k0; exact DataW.trod_lt m _ _ _ hm
  obtain ⟨z0, w0⟩ : ∃ zs, IsRow .u8 W a0 len0 cap0 zs := by
    obtain ⟨fuel, hf⟩ := h0
    rcases open_ints Try.underlying22 Try.underlying5 (by kernel_rfl) hf with ⟨hcs, _⟩ | ⟨x, l, c, zs, hcs, _, hl, hm, hz, _, hcell, hwz⟩
    · simp [Value.cells] at hcs
      obtain ⟨rfl, rfl, rfl⟩ := hcs
      exact ⟨[], .inl ⟨rfl, rfl, rfl, rfl⟩⟩
    · simp [Value.cells] at hcs
      obtain ⟨rfl, rfl, rfl⟩ := hcs
      exact ⟨zs, .inr ⟨_, rfl, hl, hm, by simpa using hz, hcell, hwz⟩⟩
  obtain ⟨a1, rfl, rfl, rfl, w1⟩ := open_int Try.underlying3 (hval 1 3 v1 rfl rfl) h1
  obtain ⟨a2, rfl, rfl, rfl, w2⟩ := open_int Try.underlying5 (hval 2 5 v2 rfl rfl) h2
  obtain ⟨a3, rfl, rfl, rfl, w3⟩ := open_int Try.underlying5 (hval 3 5 v3 rfl rfl) h3
  clear hA0 hval0
  refine (walk a0 len0 cap0 z0 a1 a2 a3 W w0 w1 w2 w3).mono fun e W' ⟨he, bel⟩ => ?_
  subst he
  exact ⟨_, rfl, _, _, _, [], _, [], hW', trodAll_mk1 (shut_bool Try.underlying4 _), (trodAll_cons_mk (Below.trod laidOut (by kernel_rfl) (of_decide_eq_true (by kernel_rfl)) k0 bel lt0) (trodAll_cons_mk (shut_int Try.underlying3 w1) (trodAll_cons_mk (shut_int Try.underlying5 w2) (trodAll_cons_mk (shut_int Try.underlying5 w3) trodAll_mk0)))), rfl, bel.frame _, fun h => by cases h⟩

theorem over : Rows.crcPairsRow.holds Try.pinned (OpenSpec.ofChange Rows.crcPairsSpec) :=
  OpenClaim.holds_of_wide 8 Try.f8 rfl rfl rfl rfl rfl rfl rfl ⟨rfl, rfl, rfl, rfl, rfl⟩ rfl rfl rfl rfl rfl (by kernel_rfl) Try.func8 (by kernel_rfl)
    (of_decide_eq_true (by kernel_rfl)) (by unfold Func.isWrapper; first | (rw [if_pos (by decide +kernel)]; kernel_rfl) | (rw [if_neg (by decide +kernel)]; exact ⟨rfl, rfl⟩))
    (fun os started H enc _ => lifted os started H enc)

theorem proved : Rows.CrcPairsSaid := over
#print axioms proved
end Go.Proofs.Ytlhkpmgjjhhniaa.crcPairs
