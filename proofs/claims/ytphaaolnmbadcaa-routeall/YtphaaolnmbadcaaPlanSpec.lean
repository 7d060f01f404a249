/-
  What package plan is to come to (contracts, as a structure), and the laws' helpers same, Heavy, known over it. Conditions: none but that package plan comes to what PlanSpec says.
-/
import Derived.Test.YtphaaolnmbadcaaRefPlanE
namespace Go.Proofs.Ytphaaolnmbadcaa
open Go.ChangeShapes Go.WideShapes Go.ChangeAt Go.RowKit
set_option linter.unusedVariables false

set_option maxHeartbeats 1000000 in
set_option maxRecDepth 100000 in
theorem heavy_any {w : World} {p : PV} {es : List (Int × Int)} {ws : List Int} {ns : List Nat} (h : Pl w p es ws ns) :
    Calls Try.prog 14 #[p.val] w fun e w' => ∃ z : Int, e = .returned (.int .i64 z) ∧ Below w.heap.size w w' := by
  have hnb := h.nb
  have HX : Hid (Bxd (w.alloc p.obj) w.heap.size p) := bxd_new w p
  have HW : Hid (Below w.heap.size w (w.alloc p.obj)) := fresh _ _
  obtain ⟨N, lanes, room, queue, rounds, every, bag, start, ea, en, ec, wa, wn, wc, na, nn, nc⟩ := p
  simp only [PV.val, PV.obj] at HX HW hnb ⊢
  have HN : Hid (Lr w na nn ns) := h.hn
  clear h
  go_enter Try.func14, Try.ntmps14
  go_wp2_with fail
  generalize w.alloc _ = W1 at HX HW ⊢
  go_loopw [3, 4] (fun u i wr => ∃ (k : Nat) (z : Int), k ≤ nn ∧ u = .int .i64 z ∧ i = .int .i64 k ∧ wr = W1) (fun _ i _ => nn - (intOf i).toNat)
  case atStart => exact ⟨0, _, Nat.zero_le _, rfl, rfl, rfl⟩
  case round =>
    obtain ⟨k, z, hk, rfl, rfl, rfl⟩ := hrel
    have hc10 := HX.out.c10
    simp only at hc10
    by_cases hkn : k < nn
    · obtain ⟨b, off, ra, rc, ha, hc, _⟩ := (HN.out.below HW.out).at hkn
      subst ha
      obtain ⟨m, hm⟩ : ∃ m, ns.getD k 0 = m := ⟨_, rfl⟩
      rw [hm] at hc
      clear hm
      go_wp2_with fail
      go_roundw
      case rel => first | exact ⟨k + 1, _, by omega, rfl, by go_num, rfl⟩ | exact ⟨k + 1, _, by omega, rfl, by go_num, trivial⟩ | ((repeat apply Exists.intro); exact ⟨⟨k + 1, _, by omega, rfl, by go_num, rfl⟩, rfl⟩)
      case measure => simp [intOf]; omega
    · obtain rfl : k = nn := by omega
      go_wp2_with fail
      go_ret
      exact ⟨_, rfl, HW.out⟩
end Go.Proofs.Ytphaaolnmbadcaa
