/-
  The laws' helper known (package shunterlaw12) over package plan's contracts. Conditions: that package plan comes to what PlanSpec says.
-/
import Derived.Test.YtiikjlohfbaedaaPlanSpec
namespace Go.Proofs.Ytiikjlohfbaedaa
open Go.ChangeShapes Go.WideShapes Go.ChangeAt Go.RowKit
set_option linter.unusedVariables false

section
variable {w : World} {p : PV} {es : List (Int × Int)} {ws : List Int} {ns : List Nat}
theorem PlanSpec.beside' (S : PlanSpec) (h : Pl w p es ws ns) (v : Int) (hv : I64 v) (l : List Int) (hl : Plan.bes es v = l) (n : Nat) (hn : l.length = n) :
    Calls Try.prog 16 #[p.val, .int .i64 v] w fun e w' => ∃ a cap, e = .returned (.slice a n cap) ∧ Zr w' a n l ∧ Below w.heap.size w w' := by
  subst hl hn
  exact S.beside h v hv
theorem PlanSpec.port' (S : PlanSpec) (h : Pl w p es ws ns) (v u : Int) (hv : I64 v) (hu : I64 u) (z : Int) (hz : Plan.port es v u = z) :
    Calls Try.prog 13 #[p.val, .int .i64 v, .int .i64 u] w fun e w' => e = .returned (.int .i64 z) ∧ Below w.heap.size w w' := by
  subst hz
  exact S.port h v u hv hu
theorem PlanSpec.hops' (S : PlanSpec) (h : Pl w p es ws ns) (l : List (Int × Int)) (hl : Plan.hops p.nodes es = l) (n : Nat) (hn : l.length = n) :
    Calls Try.prog 12 #[p.val] w fun e w' => ∃ a cap, e = .returned (.slice a n cap) ∧ Pr w' a n l ∧ Below w.heap.size w w' := by
  subst hl hn
  exact S.hops h
theorem PlanSpec.check' (S : PlanSpec) (h : Pl w p es ws ns) (z : Int) (hz : Plan.errno (Plan.may p.num es ws ns) = z) :
    Calls Try.prog 11 #[p.val] w fun e w' => e = .returned (.int .u16 z) ∧ Below w.heap.size w w' := by
  subst hz
  exact S.check h
end
theorem gdH : Try.prog.eqGuardType Try.prog.depth 38 = false := by kernel_rfl
theorem eqH (w : World) (a b c d : Int) : (binOp .eql 38 (.agg #[.int .i64 a, .int .i64 b]) (.agg #[.int .i64 c, .int .i64 d])).run Try.prog w = .ok (.bool (a == c && b == d)) w := by
  have u3 := Try.underlying3
  have a3 := Try.isAgg3
  have z3 := Try.sizeOf3
  have hS : Try.prog.underlying 38 = some (.struct (Try.prog.fieldsOf 38)) := by kernel_rfl
  have hp : Try.prog.stoodInHeld 38 = false := by kernel_rfl
  rw [run_eql_struct, show (10000 : Nat) = 9999 + 1 from rfl, run_equalIn_agg w 9999 38 _ _ hS hp]
  simp only [Program.fieldsOf, Try.underlying38]
  go_simp
  by_cases h1 : a = c <;> by_cases h2 : b = d <;> simp [h1, h2]
theorem neqH (w : World) (a b : Int) : (binOp .neq 38 (.agg #[.int .i64 a, .int .i64 b]) (.agg #[.int .i64 a, .int .i64 b])).run Try.prog w = .ok (.bool false) w := by
  have u3 := Try.underlying3
  have a3 := Try.isAgg3
  have z3 := Try.sizeOf3
  have hS : Try.prog.underlying 38 = some (.struct (Try.prog.fieldsOf 38)) := by kernel_rfl
  have hp : Try.prog.stoodInHeld 38 = false := by kernel_rfl
  rw [run_neq_struct, show (10000 : Nat) = 9999 + 1 from rfl, run_equalIn_agg w 9999 38 _ _ hS hp]
  simp only [Program.fieldsOf, Try.underlying38]
  go_simp
theorem zr_cell {w : World} {b off n : Nat} {l : List Int} (h : Zr w (some ⟨b, off, none⟩) n l) (k : Nat) (hk : k < n) : w.cell? ⟨b, off + k, none⟩ = some (.int .i64 (l.getD k 0)) := by
  obtain ⟨b', off', e, hc⟩ := h.at hk
  cases e
  exact hc
theorem pr_cell {w : World} {b off n : Nat} {l : List (Int × Int)} (h : Pr w (some ⟨b, off, none⟩) n l) (k : Nat) (hk : k < n) : w.cell? ⟨b, off + k * 2, none⟩ = some (.int .i64 (l.getD k (0, 0)).1) ∧ w.cell? ⟨b, off + k * 2 + 1, none⟩ = some (.int .i64 (l.getD k (0, 0)).2) := by
  obtain ⟨b', off', e, hc⟩ := h.at hk
  cases e
  exact hc
/-- the chapter's example -/
def pk (b : Nat) : PV := ⟨3, 0, 0, 0, 0, 0, 0, 0, some ⟨b, 0, none⟩, 2, 2, none, 0, 0, none, 0, 0⟩
def ek : List (Int × Int) := [(0, 1), (1, 2)]
theorem pl_known (w : World) : Pl ((w.alloc (.cells #[.int .i64 0, .int .i64 1, .int .i64 1, .int .i64 2] 33)).alloc (pk w.heap.size).obj) (pk w.heap.size) ek [] [] := by
  have h1 : Pr (w.alloc (.cells #[.int .i64 0, .int .i64 1, .int .i64 1, .int .i64 2] 33)) (some ⟨w.heap.size, 0, none⟩) 2 ek := by
    refine ⟨rfl, by unfold maxLen; omega, .inr ⟨w.heap.size, 0, rfl, by simp, fun i hi => ?_⟩⟩
    have : i = 0 ∨ i = 1 := by omega
    rcases this with rfl | rfl <;> simp [ek]
  have hm : (2 : Nat) ≤ maxLen := by unfold maxLen; omega
  have hz : (0 : Nat) ≤ maxLen := Nat.zero_le _
  refine ⟨h1.below (fresh _ _), Zr.nil, Lr.nil, by simp [pk], by simp [pk], by simp [pk], ⟨Nat.le_refl _, hm⟩, ⟨Nat.le_refl _, hz⟩, ⟨Nat.le_refl _, hz⟩, ?_, by simp, ?_⟩
  · intro x hx
    simp only [ek, List.mem_cons, List.not_mem_nil, or_false] at hx
    rcases hx with rfl | rfl <;> simp [I64]
  · simp [pk, I64]
theorem kn1 : Plan.bes ek 1 = [0, 2] := by decide
theorem kn2 : Plan.hops 3 ek = [(0, 1), (1, 0), (1, 2), (2, 1)] := by decide
theorem kn3 : Plan.port ek 1 2 = 2 := by decide
theorem kn4 : Plan.port ek 0 2 = -1 := by decide
theorem kn5 (b : Nat) : Plan.errno (Plan.may (pk b).num ek [] []) = 120 := by
  show Plan.errno (Plan.may ⟨3, 0, 0, 0, 0, 0, 0⟩ ek [] []) = 120
  decide
set_option maxHeartbeats 4000000 in
set_option maxRecDepth 100000 in
theorem known_any (S : PlanSpec) (w : World) :
    Calls Try.prog 10 #[] w fun e w' => e = .returned (.bool true) ∧ Below w.heap.size w w' := by
  have HP : Hid (Pl ((w.alloc (.cells #[.int .i64 0, .int .i64 1, .int .i64 1, .int .i64 2] 33)).alloc (pk w.heap.size).obj) (pk w.heap.size) ek [] []) := pl_known w
  have HX : Hid (Bxd ((w.alloc (.cells #[.int .i64 0, .int .i64 1, .int .i64 1, .int .i64 2] 33)).alloc (pk w.heap.size).obj) (w.heap.size + 1) (pk w.heap.size)) := by
    have := bxd_new (w.alloc (.cells #[.int .i64 0, .int .i64 1, .int .i64 1, .int .i64 2] 33)) (pk w.heap.size)
    rw [World.size_alloc] at this
    exact this
  have HW : Hid (Below w.heap.size w ((w.alloc (.cells #[.int .i64 0, .int .i64 1, .int .i64 1, .int .i64 2] 33)).alloc (pk w.heap.size).obj)) := later (fresh _ _) (fresh _ _)
  simp only [PV.obj, pk] at HP HX HW
  go_enter Try.func10, Try.ntmps10
  go_wp2_with (first
    | (go_at_call 11; refine (PlanSpec.check' S HP4.out 120 (kn5 w.heap.size)).mono ?_; rintro e w5 ⟨rfl, hB5⟩; have HB5 : Hid (Below w.heap.size w w5) := later HB4.out hB5; clear hB5)
    | (go_at_call 13; refine (PlanSpec.port' S HP3.out 0 2 (by unfold I64; omega) (by unfold I64; omega) (-1) kn4).mono ?_; rintro e w4 ⟨rfl, hB4⟩; clear z0 z1 z2 z3 z4 z5 z6 z7 z8 z9 z10; have HP4 : Hid (Pl w4 ⟨3, 0, 0, 0, 0, 0, 0, 0, some ⟨w.heap.size, 0, none⟩, 2, 2, none, 0, 0, none, 0, 0⟩ ek [] []) := HP3.out.below hB4; have HX4 : Hid (Bxd w4 (w.heap.size + 1) ⟨3, 0, 0, 0, 0, 0, 0, 0, some ⟨w.heap.size, 0, none⟩, 2, 2, none, 0, 0, none, 0, 0⟩) := HX3.out.below hB4; obtain ⟨u0, u1, u2, u3, u4, u5, u6, u7, u8, u9, u10⟩ := HX4.out; simp only at u0 u1 u2 u3 u4 u5 u6 u7 u8 u9 u10; have HB4 : Hid (Below w.heap.size w w4) := later HB3.out hB4; have ch := pr_cell (HZ3.out.below hB4) 3 (by omega); obtain ⟨ch0, ch1⟩ := ch; simp at ch0 ch1; have heq := fun w => eqH w 2 1 2 1; have hgd := gdH; simp only [beq_self_eq_true, Bool.and_self] at heq; clear hB4)
    | (go_at_call 13; refine (PlanSpec.port' S HP2.out 1 2 (by unfold I64; omega) (by unfold I64; omega) 2 kn3).mono ?_; rintro e w3 ⟨rfl, hB3⟩; clear y0 y1 y2 y3 y4 y5 y6 y7 y8 y9 y10; have HP3 : Hid (Pl w3 ⟨3, 0, 0, 0, 0, 0, 0, 0, some ⟨w.heap.size, 0, none⟩, 2, 2, none, 0, 0, none, 0, 0⟩ ek [] []) := HP2.out.below hB3; have HX3 : Hid (Bxd w3 (w.heap.size + 1) ⟨3, 0, 0, 0, 0, 0, 0, 0, some ⟨w.heap.size, 0, none⟩, 2, 2, none, 0, 0, none, 0, 0⟩) := HX2.out.below hB3; obtain ⟨z0, z1, z2, z3, z4, z5, z6, z7, z8, z9, z10⟩ := HX3.out; simp only at z0 z1 z2 z3 z4 z5 z6 z7 z8 z9 z10; have HB3 : Hid (Below w.heap.size w w3) := later HB2.out hB3; have HZ3 : Hid (Pr w3 (some ⟨b2, o2, none⟩) 4 [(0, 1), (1, 0), (1, 2), (2, 1)]) := HZ2.out.below hB3; clear hB3 cl)
    | (go_at_call 12; refine (PlanSpec.hops' S HP1.out _ kn2 4 rfl).mono ?_; rintro e w2 ⟨a2, cap2, rfl, hz2, hB2⟩; clear x0 x1 x2 x3 x4 x5 x6 x7 x8 x9 x10; have HP2 : Hid (Pl w2 ⟨3, 0, 0, 0, 0, 0, 0, 0, some ⟨w.heap.size, 0, none⟩, 2, 2, none, 0, 0, none, 0, 0⟩ ek [] []) := HP1.out.below hB2; have HX2 : Hid (Bxd w2 (w.heap.size + 1) ⟨3, 0, 0, 0, 0, 0, 0, 0, some ⟨w.heap.size, 0, none⟩, 2, 2, none, 0, 0, none, 0, 0⟩) := HX1.out.below hB2; obtain ⟨y0, y1, y2, y3, y4, y5, y6, y7, y8, y9, y10⟩ := HX2.out; simp only at y0 y1 y2 y3 y4 y5 y6 y7 y8 y9 y10; have HB2 : Hid (Below w.heap.size w w2) := later HB1.out hB2; obtain ⟨b2, o2, e2, _⟩ := hz2.at (k := 0) (by omega); subst e2; have HZ2 : Hid (Pr w2 (some ⟨b2, o2, none⟩) 4 [(0, 1), (1, 0), (1, 2), (2, 1)]) := hz2; have cl : w2.cell? ⟨b1, o1 + 1, none⟩ = some (.int .i64 2) := zr_cell (HZ1.out.below hB2) 1 (by omega); clear hz2 hB2)
    | (go_at_call 16; refine (PlanSpec.beside' S HP.out 1 (by unfold I64; omega) [0, 2] kn1 2 rfl).mono ?_; rintro e w1 ⟨a1, cap1, rfl, hz1, hB1⟩; have HP1 : Hid (Pl w1 ⟨3, 0, 0, 0, 0, 0, 0, 0, some ⟨w.heap.size, 0, none⟩, 2, 2, none, 0, 0, none, 0, 0⟩ ek [] []) := HP.out.below hB1; have HX1 : Hid (Bxd w1 (w.heap.size + 1) ⟨3, 0, 0, 0, 0, 0, 0, 0, some ⟨w.heap.size, 0, none⟩, 2, 2, none, 0, 0, none, 0, 0⟩) := HX.out.below hB1; obtain ⟨x0, x1, x2, x3, x4, x5, x6, x7, x8, x9, x10⟩ := HX1.out; simp only at x0 x1 x2 x3 x4 x5 x6 x7 x8 x9 x10; have HB1 : Hid (Below w.heap.size w w1) := later HW.out hB1; obtain ⟨b1, o1, e1, _⟩ := hz1.at (k := 0) (by omega); subst e1; have HZ1 : Hid (Zr w1 (some ⟨b1, o1, none⟩) 2 [0, 2]) := hz1; clear hz1 hB1))
  go_ret
  exact ⟨rfl, HB5.out⟩
end Go.Proofs.Ytiikjlohfbaedaa
