/-
  The law MaskTells of package shunterlaw09: Has, Count and Bits of any mask are what the document says. Conditions: that the table of math/bits holds what its initialiser lays.
-/
import Derived.Test.YtakmbemlmpaknaaDoorMaskW
namespace Go.Proofs.YtakmbemlmpaknaaDoor
open Go.ChangeShapes Go.WideShapes Go.ChangeAt Go.RowKit
set_option linter.unusedVariables false

set_option maxRecDepth 100000 in
set_option maxHeartbeats 1000000 in
theorem maskTells_any (w : World) (hT : Tab w) (m0 : Int) (wm : (Lit.int .u16 m0).wf = true) (i : Int) (wi : (Lit.int .i64 i).wf = true) :
    Calls Tryd.prog 5 #[.int .u16 m0, .int .i64 i] w fun e w' => e = .returned (.bool true) ∧ Below w.heap.size w w' := by
  obtain ⟨m, rfl, hm⟩ := nat_u16 wm
  have h0 := hT.lt
  have HT : Hid (Tab w) := hT
  clear hT wm wi
  obtain ⟨hb, hhb⟩ : ∃ hb, hasB m i = hb := ⟨_, rfl⟩
  obtain ⟨l, hl⟩ : ∃ l, (Mask.bitsOf m).length = l := ⟨_, rfl⟩
  have HL : Hid ((Mask.bitsOf m).length = l) := hl
  go_enter Tryd.func5, Tryd.ntmps5
  go_wp2_with (first | (go_at_call 11; refine (known_any _ HT.out).mono ?_; rintro e w1 ⟨rfl, b1⟩) | (go_at_call 13; refine (has_any m hm _ _).mono ?_; rintro e w' ⟨rfl, hq⟩; obtain rfl := hq.symm; clear hq) | (go_at_call 16; refine (refHas_any m hm _ _).mono ?_; rintro e w' ⟨rfl, hq⟩; obtain rfl := hq.symm; clear hq) | (go_at_call 17; refine (count_any m hm _).mono ?_; rintro e w2 ⟨rfl, b2⟩; have b12 := b1.trans (b2.mono b1.size)) | (go_at_call 18; refine (refCount_any m hm _).mono ?_; rintro e w3 ⟨rfl, b3⟩; have b13 := b12.trans (b3.mono b12.size)) | (go_at_call 20; refine (bits_any m hm _ (HT.out.below b13 h0)).mono ?_; rintro e w4 ⟨a4, c4, rfl, n4, b4⟩; have b14 := b13.trans (b4.mono b13.size); have N4 : Hid (Nums .i64 w4 a4 (Mask.bitsOf m).length (Mask.bitsOf m)) := n4; clear n4) | (go_at_call 21; refine (refBits_any m hm _).mono ?_; rintro e w5 ⟨a5, c5, rfl, n5, b5⟩; have b15 := b14.trans (b5.mono b14.size); have N5 : Hid (Nums .i64 w5 a5 (Mask.bitsOf m).length (Mask.bitsOf m)) := n5; have N45 : Hid (Nums .i64 w5 a4 (Mask.bitsOf m).length (Mask.bitsOf m)) := N4.out.below b5; clear n5) | (go_at_call 19; refine (same_any a4 a5 l c4 c5 (Mask.bitsOf m) _ (HL.out ▸ N45.out) (HL.out ▸ N5.out)).mono ?_; rintro e w6 ⟨rfl, b6⟩; have b16 := b15.trans (b6.mono b15.size)))
  go_ret
  exact ⟨rfl, b16⟩
end Go.Proofs.YtakmbemlmpaknaaDoor
