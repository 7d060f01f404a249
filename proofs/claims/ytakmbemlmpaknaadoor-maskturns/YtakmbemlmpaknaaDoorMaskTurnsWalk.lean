/-
  The law MaskTurns of package shunterlaw09: Turn of any rows is what the document says. Conditions: that the table of math/bits holds what its initialiser lays.
-/
import Derived.Test.YtakmbemlmpaknaaDoorMaskS
namespace Go.Proofs.YtakmbemlmpaknaaDoor
open Go.ChangeShapes Go.WideShapes Go.ChangeAt Go.RowKit
set_option linter.unusedVariables false

set_option maxRecDepth 100000 in
set_option maxHeartbeats 1000000 in
theorem maskTurns_any (w : World) (hT : Tab w) (a : Option Addr) (len cap : Nat) (rows : List Nat) (hr : Nums .u16 w a len rows) (hl : ∀ x ∈ rows, x < 65536) (hc : len ≤ cap) (hcm : cap ≤ 140737488351232) (n : Int) (wn : (Lit.int .i64 n).wf = true) (k0 : Int) (wk : (Lit.int .u8 k0).wf = true) :
    Calls Tryd.prog 7 #[.slice a len cap, .int .i64 n, .int .u8 k0] w fun e w' => e = .returned (.bool true) ∧ Below w.heap.size w w' := by
  obtain ⟨k, rfl, hk⟩ := nat_u8 wk
  obtain ⟨K, hK, hK1, hK16⟩ := size_of k
  have HT : Hid (Tab w) := hT
  have HR : Hid (Nums .u16 w a len rows) := hr
  have h0 := hT.lt
  clear hT hr wk wn
  by_cases h100 : 100 < len
  · have d : decide ((100 : Int) < (len : Int)) = true := decide_eq_true (by omega)
    go_enter Tryd.func7, Tryd.ntmps7
    go_wp2_with fail
    refine (known_any _ HT.out).mono ?_
    rintro e w1 ⟨rfl, b1⟩
    go_wp2_with fail
    go_ret
    exact ⟨rfl, b1⟩
  · have d : decide ((100 : Int) < (len : Int)) = false := decide_eq_false (by omega)
    go_enter Tryd.func7, Tryd.ntmps7
    go_wp2_with fail
    refine (known_any _ HT.out).mono ?_
    rintro e w1 ⟨rfl, b1⟩
    go_wp2_with fail
    refine (turn_any a len cap hc (by omega) rows hl n _ (HR.out.below b1) (HT.out.below b1 h0)).mono ?_
    rintro e w2 ⟨x2, c2, rfl, _, _, n2, b2⟩
    have b12 := later b1 b2
    have N2 : Hid (Nums .u16 w2 x2 (turnL rows n).length (turnL rows n)) := n2
    clear n2
    obtain ⟨L, hL⟩ : ∃ L, (turnL rows n).length = L := ⟨_, rfl⟩
    have HL : Hid ((turnL rows n).length = L) := hL
    rw [hL]
    rw [hL] at N2
    clear hL
    go_wp2_with fail
    refine (refTurn_any a len cap rows hl n _ (HR.out.below b12)).mono ?_
    rintro e w3 ⟨x3, c3, rfl, n3, b3⟩
    have b13 := later b12 b3
    have N3 : Hid (Nums .u16 w3 x3 L (turnL rows n)) := by rw [HL.out] at n3; exact n3
    clear n3
    rw [HL.out]
    go_wp2_with fail
    refine (alike_any x2 x3 L c2 c3 (turnL rows n) _ (N2.out.below b3) N3.out).mono ?_
    rintro e w4 ⟨rfl, b4⟩
    have b14 := later b13 b4
    go_wp2_with fail
    refine (turn_any a len cap hc (by omega) rows hl (K : Nat) _ (HR.out.below b14) (HT.out.below b14 h0)).mono ?_
    rintro e w5 ⟨x5, c5, rfl, _, _, n5, b5⟩
    have b15 := later b14 b5
    rw [turnL_in ⟨hK1, hK16⟩, Mask.turn_len] at n5
    rw [turnL_in ⟨hK1, hK16⟩, Mask.turn_len]
    have N5 : Hid (Nums .u16 w5 x5 K (Mask.turn rows K)) := n5
    clear n5
    go_wp2_with fail
    refine (refTurn_any a len cap rows hl (K : Nat) _ (HR.out.below b15)).mono ?_
    rintro e w6 ⟨x6, c6, rfl, n6, b6⟩
    have b16 := later b15 b6
    rw [turnL_in ⟨hK1, hK16⟩, Mask.turn_len] at n6
    rw [turnL_in ⟨hK1, hK16⟩, Mask.turn_len]
    have N6 : Hid (Nums .u16 w6 x6 K (Mask.turn rows K)) := n6
    clear n6
    go_wp2_with fail
    refine (alike_any x5 x6 K c5 c6 (Mask.turn rows K) _ (N5.out.below b6) N6.out).mono ?_
    rintro e w7 ⟨rfl, b7⟩
    go_wp2_with fail
    go_ret
    exact ⟨rfl, later b16 b7⟩
end Go.Proofs.YtakmbemlmpaknaaDoor
