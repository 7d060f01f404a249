/-
  For every slice of bytes, the law WireOnly of package shunterlaw03 returns true and leaves the slice as it was. Conditions: none.
-/
import Derived.Test.YtmllgbgcageccaaWireK
import Derived.Test.YtmllgbgcageccaaRows
import Derived.WalkKit
import Derived.ProofKit
import Derived.OpenShut
import Derived.ShutString
import Derived.ChangeOld
import Derived.Below
namespace Go.Proofs.Ytmllgbgcageccaa.wireOnly
open Go.ChangeShapes Go.WideShapes Go.ChangeAt Go.RowKit
open Go.ChangeMaps (open_string shut_string)
set_option linter.unusedVariables false

theorem own : ownKnob Try.prog.godebug = none := by kernel_rfl
theorem laidOut : laidOutB Try.prog = true := by kernel_rfl

/-- WHAT THE WALK IS TOLD OF A SLICE OF INTEGERS THAT CAME IN: it is nil; or it leads to a row of 'cap' cells, the numbers 'zs' (the first 'len' are its elements, the rest its spare room), each fitting its kind. -/
def IsRow (k : IntKind) (w : World) (a : Option Addr) (len cap : Nat) (zs : List Int) : Prop :=
  (a = none ∧ len = 0 ∧ cap = 0 ∧ zs = []) ∨
  ∃ x, a = some x ∧ len ≤ cap ∧ cap ≤ maxLen ∧ zs.length = cap ∧ (∀ i, i < zs.length → w.cell? (x.add i) = some (.int k (zs.getD i 0))) ∧ ∀ n ∈ zs, (Lit.int k n).wf = true

set_option maxHeartbeats 1000000 in
theorem walk (a0 : Option Addr) (len0 cap0 : Nat) (z0 : List Int) (w : World) (w0 : IsRow .u8 w a0 len0 cap0 z0) :
    Calls Try.prog 10 #[.slice a0 len0 cap0] w fun e w' => e = .returned (.bool true) ∧ Below w.heap.size w w' := by
  obtain ⟨l, hl⟩ : ∃ l, Octs w a0 len0 l := ⟨_, octs_of w0⟩
  have HL : Hid (Octs w a0 len0 l) := hl
  have HC : Hid (len0 ≤ cap0 ∧ cap0 ≤ 9223372036854775807) := cap_of w0
  clear hl w0
  by_cases hb : 100 < len0
  · go_enter Try.func10, Try.ntmps10
    go_wp2_with (go_at_call 15; refine (known_any _).mono ?_; rintro e w' ⟨rfl, hbel⟩)
    go_ret
    exact ⟨rfl, hbel⟩
  · cases hd : Wire.dec l with
    | none =>
      have HD : Hid (decVal .u16 l = _) := bad_val (k := .u16) hd
      clear hd
      go_enter Try.func10, Try.ntmps10
      go_wp2_with fail
      refine (known_any _).mono ?_
      rintro e u1 ⟨rfl, h1⟩
      go_wp2_with fail
      refine (decode_is _ _ _ l _ (HL.out.below h1) HC.out _ HD.out).mono ?_
      rintro e u2 ⟨rfl, h2⟩
      go_wp2_with fail
      all_goals (go_ret; exact ⟨rfl, later (later h1 h2) (fresh _ _)⟩)
    | some f =>
      obtain ⟨hok, hsd, henc⟩ := Wire.dec_some HL.out.2.2.1 hd
      have HD : Hid (decVal .u16 l = .tuple #[fr f, .int .u16 0]) := good_val (k := .u16) hd
      have HF : Hid (f.ok ∧ f.sound = true ∧ f.enc = l ∧ (f.k = 1 ↔ l.length = 12)) := ⟨hok, hsd, henc, Wire.dec_kind HL.out.2.2.1 hd⟩
      have hlen : len0 = 12 ∧ f.k = 1 ∨ len0 = 6 ∧ f.k ≠ 1 := by
        have h1 := Wire.enc_length f
        have h2 := HL.out.1
        rw [henc] at h1
        by_cases hk : f.k = 1
        · rw [if_pos hk] at h1; exact .inl ⟨by omega, hk⟩
        · rw [if_neg hk] at h1; exact .inr ⟨by omega, hk⟩
      clear hd hok hsd henc
      rcases hlen with ⟨rfl, hk⟩ | ⟨rfl, hk⟩
      · have hkb : ((f.k : Int) == 1) = true := by rw [hk]; rfl
        have HLe : Hid (f.enc.length = 12) := by show _ = _; rw [HF.out.2.2.1]; exact HL.out.1
        clear hk
        obtain ⟨fk, fl, fs, fa, fb, fx⟩ := f
        unfold fr at HD
        simp only at HD hkb
        go_enter Try.func10, Try.ntmps10
        go_wp2_with fail
        refine (known_any _).mono ?_
        rintro e u1 ⟨rfl, h1⟩
        go_wp2_with fail
        refine (decode_is _ _ _ l _ (HL.out.below h1) HC.out _ HD.out).mono ?_
        rintro e u2 ⟨rfl, h2⟩
        go_wp2_with fail
        refine (enc_is ⟨fk, fl, fs, fa, fb, fx⟩ ⟨HF.out.1, HF.out.2.1⟩ 12 HLe.out _).mono ?_
        rintro e u3 ⟨g, c, rfl, o3, h3⟩
        have k1 : (convert 27 9 (.slice (some ⟨g, 0, none⟩) 12 c)).run Try.prog u3 = .ok (.string (strOf l)) u3 := by
          have := str_run (cap := c) o3.octs
          rwa [HF.out.2.2.1] at this
        have k2 : (convert 27 9 (.slice a0 12 cap0)).run Try.prog u3 = .ok (.string (strOf l)) u3 := str_run (((HL.out.below h1).below h2).below (fresh _ _) |>.below h3)
        go_wp2_with fail
        go_ret
        exact ⟨ret_bool (by simp), later (later (later h1 h2) (fresh _ _)) h3⟩
      · have hkb : ((f.k : Int) == 1) = false := by simp; omega
        have HLe : Hid (f.enc.length = 6) := by show _ = _; rw [HF.out.2.2.1]; exact HL.out.1
        clear hk
        obtain ⟨fk, fl, fs, fa, fb, fx⟩ := f
        unfold fr at HD
        simp only at HD hkb
        go_enter Try.func10, Try.ntmps10
        go_wp2_with fail
        refine (known_any _).mono ?_
        rintro e u1 ⟨rfl, h1⟩
        go_wp2_with fail
        refine (decode_is _ _ _ l _ (HL.out.below h1) HC.out _ HD.out).mono ?_
        rintro e u2 ⟨rfl, h2⟩
        go_wp2_with fail
        refine (enc_is ⟨fk, fl, fs, fa, fb, fx⟩ ⟨HF.out.1, HF.out.2.1⟩ 6 HLe.out _).mono ?_
        rintro e u3 ⟨g, c, rfl, o3, h3⟩
        have k1 : (convert 27 9 (.slice (some ⟨g, 0, none⟩) 6 c)).run Try.prog u3 = .ok (.string (strOf l)) u3 := by
          have := str_run (cap := c) o3.octs
          rwa [HF.out.2.2.1] at this
        have k2 : (convert 27 9 (.slice a0 6 cap0)).run Try.prog u3 = .ok (.string (strOf l)) u3 := str_run (((HL.out.below h1).below h2).below (fresh _ _) |>.below h3)
        go_wp2_with fail
        go_ret
        exact ⟨ret_bool (by simp), later (later (later h1 h2) (fresh _ _)) h3⟩

set_option maxRecDepth 100000 in
theorem lifted (os : Os) (started : os.Started) (H : Type) (enc : TypeId × Value → H) :
    ReturnsInHanded {} Try.checked os 10 .any (Rows.wireOnlySpec.pre6 enc Try.prog Try.f10 Rows.wireOnlyRow.domain false) (Rows.wireOnlySpec.post enc Try.prog Try.f10 false true false false) := by
  refine returnsInHanded_of_change (C := Try.checked) own started (by kernel_rfl) Try.func10
    (ChangeSpec.witness6 (enc := enc) (C := Try.checked) false ⟨#[], #[.slice none 0 0], []⟩ 8 (by kernel_rfl) (by kernel_rfl) (by kernel_rfl) (by kernel_rfl)) ?_
  intro W base args ds gs before hval0 hW hcnd _
  have hval : ∀ (j : Nat) t v, Try.f10.params[j]? = some t → args[j]? = some v → Value.okWide Try.prog W .any base t v := hval0
  have hW' := hW
  obtain ⟨p, q, hA0, hV, rfl, hfz, hnd⟩ := hW
  have hA : DataW.TrodAll enc Try.prog W 0 (fun _ => true) true Try.f10.params.toList args.toList ds p := hA0
  rw [Try.params10] at hA hval
  obtain ⟨v0, vs0, d0, ds0, p0, q0, hargs, rfl, rfl, h0, r0⟩ := trodAll_cons hA
  obtain ⟨rfl, rfl, rfl⟩ := trodAll_nil r0
  obtain rfl : args = #[v0] := by cases args; simp_all
  obtain ⟨rfl, rfl⟩ := trodVars_none hV
  obtain ⟨a0, len0, cap0, rfl⟩ := okWide_slice Try.underlying27 (hval 0 27 v0 rfl rfl)
  have k0 := h0
  have lt0 : ∀ x ∈ p0, x.block < W.heap.size := by obtain ⟨m, hm⟩ := k0; exact DataW.trod_lt m _ _ _ hm
  obtain ⟨z0, w0⟩ : ∃ zs, IsRow .u8 W a0 len0 cap0 zs := by
    obtain ⟨fuel, hf⟩ := h0
    rcases open_ints Try.underlying27 Try.underlying5 (by kernel_rfl) hf with ⟨hcs, _⟩ | ⟨x, l, c, zs, hcs, _, hl, hm, hz, _, hcell, hwz⟩
    · simp [Value.cells] at hcs
      obtain ⟨rfl, rfl, rfl⟩ := hcs
      exact ⟨[], .inl ⟨rfl, rfl, rfl, rfl⟩⟩
    · simp [Value.cells] at hcs
      obtain ⟨rfl, rfl, rfl⟩ := hcs
      exact ⟨zs, .inr ⟨_, rfl, hl, hm, by simpa using hz, hcell, hwz⟩⟩
  clear hA0 hval0
  refine (walk a0 len0 cap0 z0 W w0).mono fun e W' ⟨he, bel⟩ => ?_
  subst he
  exact ⟨_, rfl, _, _, _, [], _, [], hW', trodAll_mk1 (shut_bool Try.underlying4 _), (trodAll_cons_mk (Below.trod laidOut (by kernel_rfl) (of_decide_eq_true (by kernel_rfl)) k0 bel lt0) trodAll_mk0), rfl, bel.frame _, fun h => by cases h⟩

theorem over : Rows.wireOnlyRow.holds Try.pinned (OpenSpec.ofChange Rows.wireOnlySpec) :=
  OpenClaim.holds_of_wide 10 Try.f10 rfl rfl rfl rfl rfl rfl rfl ⟨rfl, rfl, rfl, rfl, rfl⟩ rfl rfl rfl rfl rfl (by kernel_rfl) Try.func10 (by kernel_rfl)
    (of_decide_eq_true (by kernel_rfl)) (by unfold Func.isWrapper; first | (rw [if_pos (by decide +kernel)]; kernel_rfl) | (rw [if_neg (by decide +kernel)]; exact ⟨rfl, rfl⟩))
    (fun os started H enc _ => lifted os started H enc)

theorem proved : Rows.WireOnlySaid := over
#print axioms proved
end Go.Proofs.Ytmllgbgcageccaa.wireOnly
