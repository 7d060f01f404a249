/-
  Runs in which none asks, and new rows held against one another (for the law IslipNone of package shunterlaw10). Conditions: that the table of math/bits holds what its initialiser lays.
-/
import Derived.Test.YtlojadodabddpaaDoorIslArg
namespace Go.Proofs.YtlojadodabddpaaDoor
open Go.ChangeShapes Go.WideShapes Go.ChangeAt Go.RowKit
set_option linter.unusedVariables false

namespace Isl
theorem none_acc {R G A : Nat → Nat} {n : Nat} (h : ∀ i, i < n → R i = 0) (i : Nat) : acc R G A n none_ i = -1 := by
  rcases acc_cases (R := R) (G := G) (A := A) (n := n) (m := none_) i with ⟨e, _⟩ | ⟨o, ho, e, hg⟩
  · exact e
  · have h1 := grant_some hg
    have := (ask_free h1.2).2.1
    rw [h i h1.1] at this
    simp at this
theorem none_run {R G A : Nat → Nat} {n : Nat} (h : ∀ i, i < n → R i = 0) (K : Nat) : run R G A n K = none_ ∧ runG R G A n = G ∧ runA R G A n = A := by
  have ha : ∀ i, i < n → acc R G A n none_ i = -1 := fun i _ => none_acc h i
  have hG : runG R G A n = G := movG_none ha
  have hA : runA R G A n = A := movA_none ha
  refine ⟨?_, hG, hA⟩
  cases K with
  | zero => rfl
  | succ K =>
    show rounds R (runG R G A n) (runA R G A n) n K (next R G A n none_) = none_
    rw [next_none ha, hG, hA, rounds_none ha]
end Isl
theorem cols_zero (w : World) (n : Nat) : Cols (w.alloc (.cells (madeCells #[.int .u16 0] n) 29)) w.heap.size n (fun _ => 0) := Cols.made w n
theorem run_zero {w : World} {p g a n : Nat} {G A : Nat → Nat} (h : Arb w p g a n G A) (hT : Tab w) (K : Nat) (hK1 : 1 ≤ K) (hK2 : K ≤ 16) :
    Calls Tryd.prog 16 #[.pointer (some ⟨p, 0, none⟩), .slice (some ⟨w.heap.size, 0, none⟩) n n, .int .i64 (K : Nat)] (w.alloc (.cells (madeCells #[.int .u16 0] n) 29)) fun e w' => ∃ b, e = .returned (.slice (some ⟨b, 0, none⟩) n n) ∧ w.heap.size ≤ b ∧ Ints w' b n (fun _ => -1) ∧ Arb w' p g a n G A ∧ Sans (fun j => j = g ∨ j = a) w w' := by
  refine (run_cols (h.below (fresh _ _)) (cols_zero w n) (fun _ _ => by omega) (hT.below (fresh _ _) hT.lt) K hK1 hK2).mono ?_
  rintro e w' ⟨b, he, h1, h2, h3, h4⟩
  have hz := Isl.none_run (R := reqs n (fun _ => 0)) (G := G) (A := A) (n := n) (fun i hi => reqs_at hi) K
  rw [hz.1] at h2
  rw [hz.2.1, hz.2.2] at h3
  refine ⟨b, he, ?_, h2, h3, (Sans.alloc _ _).then h4⟩
  rw [World.size_alloc] at h1
  omega
theorem same_new1 {u : World} {gb gc j : Nat} (hj : j ≤ 16) (gi : Ints u gb j (fun k => (((fun _ => 0) k : Nat) : Int))) : Calls Tryd.prog 17 #[.slice (some ⟨gb, 0, none⟩) j gc, .slice (some ⟨u.heap.size, 0, none⟩) j j] (u.alloc (.cells (madeCells #[.int .i64 0] j) 3)) fun e w' => e = .returned (.bool true) ∧ Below u.heap.size u w' :=
  (same_any (some ⟨gb, 0, none⟩) (some ⟨u.heap.size, 0, none⟩) j gc j (fun _ => 0) _ (by omega) (gi.below (fresh _ _)).led (Ints.made u j _).led).mono fun e w' ⟨he, hb⟩ => ⟨he, later (fresh _ _) hb⟩
theorem same_new2 {v u : World} {gb gc j : Nat} (hj : j ≤ 16) (k : Below (v.alloc (.cells (madeCells #[.int .i64 0] j) 3)).heap.size (v.alloc (.cells (madeCells #[.int .i64 0] j) 3)) u) (gi : Ints u gb j (fun k => (((fun _ => 0) k : Nat) : Int))) : Calls Tryd.prog 17 #[.slice (some ⟨gb, 0, none⟩) j gc, .slice (some ⟨v.heap.size, 0, none⟩) j j] u fun e w' => e = .returned (.bool true) ∧ Below u.heap.size u w' :=
  same_any (some ⟨gb, 0, none⟩) (some ⟨v.heap.size, 0, none⟩) j gc j (fun _ => 0) _ (by omega) gi.led ((Ints.made v j _).below k).led
end Go.Proofs.YtlojadodabddpaaDoor
