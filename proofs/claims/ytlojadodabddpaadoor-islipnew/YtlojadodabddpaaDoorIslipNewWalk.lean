/-
  The law IslipNew of package shunterlaw10: one that may be looks from 0 everywhere. Conditions: that the table of math/bits holds what its initialiser lays.
-/
import Derived.Test.YtlojadodabddpaaDoorIslArg
namespace Go.Proofs.YtlojadodabddpaaDoor
open Go.ChangeShapes Go.WideShapes Go.ChangeAt Go.RowKit
set_option linter.unusedVariables false

set_option maxRecDepth 100000 in
set_option maxHeartbeats 1000000 in
theorem islipNew_any (w : World) (hT : Tab w) (z : Int) (wz : (Lit.int .i64 z).wf = true) :
    Calls Tryd.prog 3 #[.int .i64 z] w fun e w' => e = .returned (.bool true) ∧ Below w.heap.size w w' := by
  have HT : Hid (Tab w) := hT
  have h0 := hT.lt
  clear hT wz
  by_cases h : 1 ≤ z ∧ z ≤ 16
  · obtain ⟨n, rfl⟩ := Int.eq_ofNat_of_zero_le (show 0 ≤ z by omega)
    have hn : 1 ≤ n ∧ n ≤ 16 := by omega
    clear h
    go_enter Tryd.func3, Tryd.ntmps3
    go_wp2_with fail
    refine (new_good n hn w).mono ?_
    rintro e w1 ⟨p, g, a, rfl, hA, hB, h1, h2, h3⟩
    go_wp2_with fail
    refine (grants_any hA).mono ?_
    rintro e w2 ⟨b, cb, rfl, hb, hI, hb2⟩
    go_wp2_with fail
    refine (accepts_any (hA.below hb2)).mono ?_
    rintro e w3 ⟨c, cc, rfl, hc, hJ, hb3⟩
    have HB : Hid (Below w.heap.size w w3) := later (later hB hb2) hb3
    have HI : Hid (Ints w3 b n (fun _ => ((0 : Nat) : Int)) ∧ Ints w3 c n (fun _ => ((0 : Nat) : Int))) := ⟨hI.below hb3, hJ⟩
    obtain ⟨hn1, hn2⟩ := hn
    clear hA hB hI hJ hb2 hb3
    go_wp2_with fail
    go_loopw [6] (fun v wr => ∃ k : Nat, k ≤ n ∧ v = .int .i64 k ∧ wr = w3) (fun v _ => n - (intOf v).toNat)
    case atStart => exact ⟨0, Nat.zero_le _, rfl, rfl⟩
    case round =>
      obtain ⟨k, hk, rfl, rfl⟩ := hrel
      by_cases hkn : k < n
      · have x1 : wr.cell? ⟨b, k, none⟩ = some (.int .i64 0) := (HI.out.1 k hkn).1
        have x2 : wr.cell? ⟨c, k, none⟩ = some (.int .i64 0) := (HI.out.2 k hkn).1
        go_wp2_with fail
        go_roundw
        case rel => exact ⟨k + 1, by omega, by go_num, by first | rfl | trivial⟩
        case measure => simp [intOf]; omega
      · obtain rfl : k = n := by omega
        go_wp2_with fail
        refine (known_any _ (HT.out.below HB.out h0)).mono ?_
        rintro e w4 ⟨rfl, hb4⟩
        go_wp2_with fail
        go_ret
        exact ⟨rfl, later HB.out hb4⟩
  · by_cases h1 : z < 1
    · go_enter Tryd.func3, Tryd.ntmps3
      go_wp2_with fail
      refine (new_bad z h w).mono ?_
      rintro e w1 ⟨rfl, hq⟩
      obtain rfl := hq.symm
      clear hq
      go_wp2_with fail
      refine (known_any _ HT.out).mono ?_
      rintro e w4 ⟨rfl, hb4⟩
      go_wp2_with fail
      go_ret
      exact ⟨rfl, hb4⟩
    · have h2 : 16 < z := by omega
      go_enter Tryd.func3, Tryd.ntmps3
      go_wp2_with fail
      refine (new_bad z h w).mono ?_
      rintro e w1 ⟨rfl, hq⟩
      obtain rfl := hq.symm
      clear hq
      go_wp2_with fail
      refine (known_any _ HT.out).mono ?_
      rintro e w4 ⟨rfl, hb4⟩
      go_wp2_with fail
      go_ret
      exact ⟨rfl, hb4⟩
end Go.Proofs.YtlojadodabddpaaDoor
