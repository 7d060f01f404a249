/-
  The law MaskPicks of package shunterlaw09: Pick of any mask, from any place, of any number, is what the document says. Conditions: that the table of math/bits holds what its initialiser lays.
-/
import Derived.Test.YtakmbemlmpaknaaDoorMaskS
namespace Go.Proofs.YtakmbemlmpaknaaDoor
open Go.ChangeShapes Go.WideShapes Go.ChangeAt Go.RowKit
set_option linter.unusedVariables false

set_option maxRecDepth 100000 in
set_option maxHeartbeats 1000000 in
theorem maskPicks_any (w : World) (hT : Tab w) (m0 : Int) (wm : (Lit.int .u16 m0).wf = true) (f : Int) (wf : (Lit.int .i64 f).wf = true) (n : Int) (wn : (Lit.int .i64 n).wf = true) (a0 : Int) (wa : (Lit.int .u8 a0).wf = true) (b0 : Int) (wb : (Lit.int .u8 b0).wf = true) :
    Calls Tryd.prog 6 #[.int .u16 m0, .int .i64 f, .int .i64 n, .int .u8 a0, .int .u8 b0] w fun e w' => e = .returned (.bool true) ∧ Below w.heap.size w w' := by
  obtain ⟨m, rfl, hm⟩ := nat_u16 wm
  obtain ⟨a, rfl, ha⟩ := nat_u8 wa
  obtain ⟨b, rfl, hb⟩ := nat_u8 wb
  obtain ⟨K, hK, hK1, hK16⟩ := size_of b
  have HT : Hid (Tab w) := hT
  obtain ⟨F, hF⟩ : ∃ F : Nat, (a : Int) % (K : Int) = (F : Nat) := ⟨a % K, by simp⟩
  have hne : ((K : Int) == 0) = false := by simp; omega
  have hK0 : (K : Int) ≠ 0 := by omega
  obtain ⟨p, hp⟩ : ∃ p, pickV m f n = p := ⟨_, rfl⟩
  obtain ⟨q, hq⟩ : ∃ q, pickV m (F : Nat) (K : Nat) = q := ⟨_, rfl⟩
  have hne := Since.any w
  clear hT wm wa wb wf wn
  go_enter Tryd.func6, Tryd.ntmps6
  go_wp2_with fail
  refine region_since (u := w) (by kernel_rfl) (by kernel_rfl) (Below.refl _ _) ?_
  repeat (go_big_quiet_step (first | (go_at_call 11; exact Since.calls _ (known_any _ (HT.out.since _))) | (go_at_call 12; exact Since.calls _ (pick_any m hm _ _ _)) | (go_at_call 22; exact Since.reads _ (refPick_any m hm _ _ _))))
  refine wpQuiet_nil ?_
  intro _ hw'
  obtain ⟨nq, hw''⟩ := hw'
  subst hw''
  go_wp2_with fail
  go_ret
  exact ⟨rfl, nq.h⟩
end Go.Proofs.YtakmbemlmpaknaaDoor
