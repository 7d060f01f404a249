/-
  The helper known of package shunterlaw15. Conditions: none but that package host comes to what HostSpec says.
-/
import Derived.Test.YtfldhjeeoaplfaaHostSpec
import Derived.Deep.RegionWith
import Derived.Deep.DeepCutAuto
namespace Go.Proofs.Ytfldhjeeoaplfaa
open Go.ChangeShapes Go.WideShapes Go.ChangeAt Go.RowKit
set_option linter.unusedVariables false

theorem z64_zero : Hst.Z64 0 := by unfold Hst.Z64; omega
set_option maxRecDepth 100000 in
set_option maxHeartbeats 2000000 in
theorem hknown_any {H : HostRel} (S : HostSpec H) (w : World) : Calls Try.prog 9 #[] w fun e w' => e = .returned (.bool true) ∧ Below w.heap.size w w' := by
  go_enter Try.func9, Try.ntmps9
  go_wp2_with fail
  refine (o_new S (w0 := w) (Z := fun _ => False) 1 1 (by omega) (by omega) (Below.refl _ _) hnone).mono ?_
  rintro e w1 ⟨p, rfl, m1, _⟩
  have H1 : Hid (Own1 H (fun _ => False) w w1 p 1 1 [] []) := m1
  clear m1
  go_wp2_with fail
  refine (o_put S H1.out hnone ⟨0, 0, 0, 5⟩ z64_zero (z := 0) (by decide) (L' := [⟨0, 0, 0, 5⟩]) rfl).mono ?_
  rintro e w2 ⟨rfl, m2, _⟩
  have H2 : Hid (Own1 H (fun _ => False) w w2 p 1 1 [⟨0, 0, 0, 5⟩] []) := m2
  clear m2 H1
  go_wp2_with fail
  refine (o_put S H2.out hnone ⟨0, 0, 0, 0⟩ z64_zero (z := 150) (by decide) (L' := [⟨0, 0, 0, 5⟩]) rfl).mono ?_
  rintro e w3 ⟨rfl, m3, _⟩
  have H3 : Hid (Own1 H (fun _ => False) w w3 p 1 1 [⟨0, 0, 0, 5⟩] []) := m3
  clear m3 H2
  go_wp2_with fail
  refine (o_next S H3.out hnone 0 z64_zero (x := ⟨0, 0, 0, 5⟩) rfl (b := true) rfl (L' := []) rfl).mono ?_
  rintro e w4 ⟨rfl, m4, _⟩
  have H4 : Hid (Own1 H (fun k => k = w4.heap.size) w (w4.alloc (.cells #[.int .i64 0, .int .i64 0, .int .i64 0, .int .u32 5] 27)) p 1 1 [] []) := (m4.wider S (fun k e => .inr (Nat.le_of_eq e.symm))).on S (fresh _ _)
  have p4 : (w4.alloc (.cells #[.int .i64 0, .int .i64 0, .int .i64 0, .int .u32 5] 27)).cell? ⟨w4.heap.size, 3, none⟩ = some (.int .u32 5) := by simp
  clear m4 H3
  dsimp only
  go_upto_region 7 with fail
  generalize w4.alloc _ = u4 at H4 p4 ⊢
  obtain ⟨g4, hg4⟩ : ∃ g, w4.heap.size = g := ⟨_, rfl⟩
  rw [hg4] at H4 p4 ⊢
  have hl4 : Hid (∀ k, k = g4 → k < u4.heap.size) := fun k e => by rw [e]; exact cell_lt p4
  clear hg4
  go_wp2_with fail
  refine (o_put S H4.out hl4.out ⟨0, 0, 0, 0⟩ z64_zero (z := 0) (by decide) (L' := [⟨0, 0, 0, 0⟩]) rfl).mono ?_
  rintro e w5 ⟨rfl, m5, s5⟩
  have p5 := (s5.cell (p := ⟨g4, 3, none⟩) (cell_lt p4) (fun e => e rfl)).trans p4
  have H5 : Hid (Own1 H (fun k => k = g4) w w5 p 1 1 [⟨0, 0, 0, 0⟩] []) := m5
  have hl5 : Hid (∀ k, k = g4 → k < w5.heap.size) := fun k e => by rw [e]; exact cell_lt p5
  clear m5 s5 p4 H4 hl4
  go_wp2_with fail
  refine (o_eject S H5.out hl5.out ⟨0, 0, 0, 7⟩ (by decide) (G' := [⟨0, 0, 0, 7⟩]) rfl).mono ?_
  rintro e w6 ⟨rfl, m6, s6⟩
  have p6 := (s6.cell (p := ⟨g4, 3, none⟩) (cell_lt p5) (fun e => e rfl)).trans p5
  have H6 : Hid (Own1 H (fun k => k = g4) w w6 p 1 1 [⟨0, 0, 0, 0⟩] [⟨0, 0, 0, 7⟩]) := m6
  clear m6 s6 p5 H5 hl5
  go_wp2_with fail
  refine (o_got S H6.out (by decide) (m' := 1) rfl).mono ?_
  rintro e w7 ⟨a, c, rfl, hr, m7, b7⟩
  obtain ⟨g7, ea, hg7, _, _, _, q7⟩ := hr.at (j := 0) (x := ⟨0, 0, 0, 7⟩) rfl
  subst ea
  simp only [Nat.zero_mul, Nat.zero_add] at q7
  have p7 := (b7.cell (p := ⟨g4, 3, none⟩) (cell_lt p6)).trans p6
  have H7 : Hid (Own1 H (fun k => k = g4 ∨ w6.heap.size ≤ k) w w7 p 1 1 [⟨0, 0, 0, 0⟩] [⟨0, 0, 0, 7⟩]) := m7
  clear m7 b7 hr p6 H6
  go_wp2_with fail
  refine (o_waits S H7.out 0 z64_zero (c := 1) rfl).mono ?_
  rintro e w8 ⟨rfl, m8, b8⟩
  have p8 := (b8.cell (p := ⟨g4, 3, none⟩) (cell_lt p7)).trans p7
  have q8 := (b8.cell (p := ⟨g7, 3, none⟩) (cell_lt q7)).trans q7
  have H8 : Hid (Below w.heap.size w w8) := m8.below
  clear m8 b8 p7 q7 H7
  go_wp2_with fail
  refine (S.new_no 0 1 z64_zero (z64_small (by omega)) (by omega) _).mono ?_
  rintro e w9 ⟨rfl, b9⟩
  have H9 : Hid (Below w.heap.size w w9) := later H8.out b9
  clear b9 p8 q8
  go_wp2_with fail
  go_ret
  exact ⟨rfl, H9.out⟩
end Go.Proofs.Ytfldhjeeoaplfaa
