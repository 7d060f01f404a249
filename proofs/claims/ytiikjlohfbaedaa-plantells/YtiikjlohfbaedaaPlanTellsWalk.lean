/-
  The law PlanTells (package shunterlaw12), walked. Conditions: that package plan comes to what PlanSpec says.
-/
import Derived.Test.YtiikjlohfbaedaaPlanTellsA
import Derived.Test.YtiikjlohfbaedaaPlanArg
namespace Go.Proofs.Ytiikjlohfbaedaa
open Go.ChangeShapes Go.WideShapes Go.ChangeAt Go.RowKit
set_option linter.unusedVariables false

set_option maxHeartbeats 4000000 in
set_option maxRecDepth 100000 in
theorem planTells_any (S : PlanSpec) (w : World) (p : PV) (es : List (Int × Int)) (ws : List Int) (ns : List Nat) (h : Pl w p es ws ns) (v : Int) (wv : (Lit.int .i64 v).wf = true) (u : Int) (wu : (Lit.int .i64 u).wf = true) :
    Calls Try.prog 6 #[p.val, .int .i64 v, .int .i64 u] w fun e w' => e = .returned (.bool true) ∧ Below w.heap.size w w' := by
  have HP : Hid (Pl w p es ws ns) := h
  have hv : I64 v := ⟨(bounds_i64 wv).1, (bounds_i64 wv).2⟩
  have hu : I64 u := ⟨(bounds_i64 wu).1, (bounds_i64 wu).2⟩
  clear h wv wu
  unfold PV.val
  go_enter Try.func6, Try.ntmps6
  go_wp2_with fail
  refine (heavy_any (p := p) (HP.out.below (fresh _ _))).mono ?_
  rintro e w1 ⟨z, rfl, hB1⟩
  have HP1 : Hid (Pl w1 p es ws ns) := (HP.out.below (fresh _ _)).below hB1
  have HX1 : Hid (Bxd w1 w.heap.size p) := (bxd_new w p).below hB1
  have HB1 : Hid (Below w.heap.size w w1) := later (fresh _ _) hB1
  clear hB1
  by_cases hz : 500 < z
  · go_wp2_with (go_at_call 10; refine (known_any S _).mono ?_; rintro e w2 ⟨rfl, hB2⟩; have HB2 : Hid (Below w.heap.size w w2) := later HB1.out hB2; clear hB2)
    go_ret
    exact ⟨rfl, HB2.out⟩
  · go_wp2_with (first
      | (go_at_call 15; refine (tells_any S HP2.out v u hv hu).mono ?_; rintro e w3 ⟨rfl, hB3⟩; have HB3 : Hid (Below w.heap.size w w3) := later HB2.out hB3; clear hB3)
      | (go_at_call 10; refine (known_any S _).mono ?_; rintro e w2 ⟨rfl, hB2⟩; have HB2 : Hid (Below w.heap.size w w2) := later HB1.out hB2; have HP2 : Hid (Pl w2 p es ws ns) := HP1.out.below hB2; obtain ⟨x0, x1, x2, x3, x4, x5, x6, x7, x8, x9, x10⟩ := HX1.out.below hB2; clear hB2))
    go_ret
    exact ⟨rfl, HB3.out⟩
end Go.Proofs.Ytiikjlohfbaedaa
