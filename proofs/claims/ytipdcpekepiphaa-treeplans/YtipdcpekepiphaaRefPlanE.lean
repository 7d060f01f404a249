/-
  The document's edges (package shunterref12): may they be? Conditions: none but that the plan's rows are led to.
-/
import Derived.Test.YtipdcpekepiphaaRefPlanD
namespace Go.Proofs.Ytipdcpekepiphaa
open Go.ChangeShapes Go.WideShapes Go.ChangeAt Go.RowKit
set_option linter.unusedVariables false

theorem gdE : Try.prog.eqGuardType Try.prog.depth 59 = false := by kernel_rfl
theorem eqE (w : World) (a b c d : Int) : (binOp .eql 59 (.agg #[.int .i64 a, .int .i64 b]) (.agg #[.int .i64 c, .int .i64 d])).run Try.prog w = .ok (.bool (a == c && b == d)) w := by
  have u3 := Try.underlying3
  have a3 := Try.isAgg3
  have z3 := Try.sizeOf3
  have hS : Try.prog.underlying 59 = some (.struct (Try.prog.fieldsOf 59)) := by kernel_rfl
  have hp : Try.prog.stoodInHeld 59 = false := by kernel_rfl
  rw [run_eql_struct, show (10000 : Nat) = 9999 + 1 from rfl, run_equalIn_agg w 9999 59 _ _ hS hp]
  simp only [Program.fieldsOf, Try.underlying59]
  go_simp
  by_cases h1 : a = c <;> by_cases h2 : b = d <;> simp [h1, h2]
namespace Plan
def edge (es : List (Int × Int)) (k : Nat) : Int × Int := es.getD k (0, 0)
theorem edge_mem {es : List (Int × Int)} {k : Nat} (h : k < es.length) : edge es k ∈ es := by
  unfold edge
  rw [List.getD_eq_getElem?_getD, List.getElem?_eq_getElem h]
  exact List.getElem_mem h
theorem mem_edge {es : List (Int × Int)} {e : Int × Int} (h : e ∈ es) : ∃ k, k < es.length ∧ edge es k = e := by
  obtain ⟨k, hk, rfl⟩ := List.getElem_of_mem h
  exact ⟨k, hk, by unfold edge; rw [List.getD_eq_getElem?_getD, List.getElem?_eq_getElem hk]; rfl⟩
def Good (N : Int) (e : Int × Int) : Prop := 0 ≤ e.1 ∧ e.1 < e.2 ∧ e.2 < N
theorem all_good (N : Int) (es : List (Int × Int)) : es.all (fun e => decide (0 ≤ e.1) && decide (e.1 < e.2) && decide (e.2 < N)) = true ↔ ∀ e ∈ es, Good N e := by
  rw [List.all_eq_true]
  constructor
  · intro h e he
    have := h e he
    simp only [Bool.and_eq_true, decide_eq_true_eq] at this
    exact ⟨this.1.1, this.1.2, this.2⟩
  · intro h e he
    have := h e he
    simp only [Bool.and_eq_true, decide_eq_true_eq]
    exact ⟨⟨this.1, this.2.1⟩, this.2.2⟩
theorem edgesOk_iff (N : Int) (es : List (Int × Int)) : edgesOk N es = true ↔ (∀ e ∈ es, Good N e) ∧ es.Nodup ∧ es.length ≤ 15 := by
  unfold edgesOk
  rw [Bool.and_eq_true, Bool.and_eq_true, all_good, decide_eq_true_eq, decide_eq_true_eq, and_assoc]
theorem edgesOk_bad {N : Int} {es : List (Int × Int)} {k : Nat} (h : k < es.length) (hb : ¬ Good N (edge es k)) : edgesOk N es = false := by
  rw [← Bool.not_eq_true, edgesOk_iff]
  exact fun h1 => hb (h1.1 _ (edge_mem h))
theorem edgesOk_dup {N : Int} {es : List (Int × Int)} {j k : Nat} (hj : j < k) (h : k < es.length) (he : edge es j = edge es k) : edgesOk N es = false := by
  rw [← Bool.not_eq_true, edgesOk_iff]
  intro h1
  have := List.pairwise_iff_getElem.1 h1.2.1 j k (by omega) h hj
  unfold edge at he
  rw [List.getD_eq_getElem?_getD, List.getElem?_eq_getElem (show j < es.length by omega), List.getD_eq_getElem?_getD, List.getElem?_eq_getElem h] at he
  exact this he
/-- the first k are such as may be -/
def Pre (N : Int) (es : List (Int × Int)) (k : Nat) : Prop := (∀ j, j < k → Good N (edge es j)) ∧ ∀ i j, i < j → j < k → edge es i ≠ edge es j
theorem Pre.zero (N : Int) (es : List (Int × Int)) : Pre N es 0 := ⟨fun j hj => by omega, fun i j h1 h2 => by omega⟩
theorem Pre.succ {N : Int} {es : List (Int × Int)} {k : Nat} (h : Pre N es k) (hg : Good N (edge es k)) (hn : ∀ j, j < k → edge es j ≠ edge es k) : Pre N es (k + 1) := by
  refine ⟨fun j hj => ?_, fun i j h1 h2 => ?_⟩
  · by_cases e : j = k
    · rw [e]; exact hg
    · exact h.1 j (by omega)
  · by_cases e : j = k
    · rw [e]; exact hn i (by omega)
    · exact h.2 i j h1 (by omega)
theorem edgesOk_pre {N : Int} {es : List (Int × Int)} (h : Pre N es es.length) : edgesOk N es = decide (es.length ≤ 15) := by
  have h1 : (∀ e ∈ es, Good N e) := fun e he => by
    obtain ⟨k, hk, rfl⟩ := mem_edge he
    exact h.1 k hk
  have h2 : es.Nodup := by
    refine List.pairwise_iff_getElem.2 fun i j hi hj hij => ?_
    have := h.2 i j hij hj
    unfold edge at this
    rw [List.getD_eq_getElem?_getD, List.getElem?_eq_getElem hi, List.getD_eq_getElem?_getD, List.getElem?_eq_getElem hj] at this
    exact this
  by_cases hl : es.length ≤ 15
  · rw [decide_eq_true hl]
    exact (edgesOk_iff N es).2 ⟨h1, h2, hl⟩
  · rw [decide_eq_false hl, ← Bool.not_eq_true, edgesOk_iff]
    exact fun h => hl h.2.2
end Plan
end Go.Proofs.Ytipdcpekepiphaa
