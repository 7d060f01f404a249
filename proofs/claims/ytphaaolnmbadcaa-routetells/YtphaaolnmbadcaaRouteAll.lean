/-
  Plans that are written out: trees, rings, chains, and all nodes joined: their ways, and whether these go round. Conditions: none.
-/
import Derived.Test.YtphaaolnmbadcaaRouteMath
import Derived.Test.YtphaaolnmbadcaaTreeMath
import Derived.Test.YtphaaolnmbadcaaPlanMk
namespace Go.Proofs.Ytphaaolnmbadcaa.Route
set_option linter.unusedVariables false

/-- the ways that Make lays: next by choices, else straight -/
def nxt (N : Nat) (l : List Nat) (k w : Nat) : Int := if k < l.length ∧ l.getD k 0 % 4 = 0 then ((l.getD k 0 / 4 % N : Nat) : Int) else (w : Int)
def mkRow (N : Nat) (l : List Nat) (v : Nat) : List Int := (List.range N).map fun w => nxt N l (N * v + w) w
def mkRows (N : Nat) (l : List Nat) : List (List Int) := (List.range N).map (mkRow N l)
theorem mkRow_len (N : Nat) (l : List Nat) (v : Nat) : (mkRow N l v).length = N := by simp [mkRow]
theorem mkRows_len (N : Nat) (l : List Nat) : (mkRows N l).length = N := by simp [mkRows]
theorem mkRow_take {N : Nat} {l : List Nat} {v j : Nat} (h : j < N) : (mkRow N l v).take j ++ [nxt N l (N * v + j) j] = (mkRow N l v).take (j + 1) := by
  have hl : j < (mkRow N l v).length := by rw [mkRow_len]; exact h
  rw [List.take_succ_eq_append_getElem hl]
  congr 2
  simp [mkRow]
theorem mkRows_take {N : Nat} {l : List Nat} {t : Nat} (h : t < N) : (mkRows N l).take t ++ [mkRow N l t] = (mkRows N l).take (t + 1) := by
  have hl : t < (mkRows N l).length := by rw [mkRows_len]; exact h
  rw [List.take_succ_eq_append_getElem hl]
  congr 2
  simp [mkRows]
theorem nxt_b {N : Nat} (hN : 1 ≤ N) (hN6 : N ≤ 6) (l : List Nat) (k : Nat) {w : Nat} (hw : w < N) : 0 ≤ nxt N l k w ∧ nxt N l k w < (N : Int) := by
  unfold nxt
  split
  · have := Nat.mod_lt (l.getD k 0 / 4) (show N > 0 by omega)
    omega
  · omega
theorem mkRows_num {N : Nat} (hN : 1 ≤ N) (hN6 : N ≤ 6) (l : List Nat) : ∀ r ∈ mkRows N l, ∀ x ∈ r, 0 ≤ x ∧ x < (N : Int) := by
  intro r hr x hx
  unfold mkRows at hr
  obtain ⟨v, _, rfl⟩ := List.mem_map.1 hr
  unfold mkRow at hx
  obtain ⟨w, hw, rfl⟩ := List.mem_map.1 hx
  exact nxt_b hN hN6 l _ (List.mem_range.1 hw)
/-- each way is there, and none goes round -/
def fineB (N : Nat) (es : List (Int × Int)) (rs : List (List Int)) : Bool := ((List.range N).all fun v => (List.range N).all fun w => decide (v = w) || !(go es rs (w : Int) (N - 1) (v : Int)).isEmpty) && (peel (rowsOf N rs (Plan.hops (N : Int) es)) 12 (List.range (rowsOf N rs (Plan.hops (N : Int) es)).length)).isEmpty
theorem fine_not {N : Nat} {es : List (Int × Int)} {rs : List (List Int)} (h : fineB N es rs = true) : ¬ Bad (N : Int) es rs := by
  unfold fineB at h
  rw [Bool.and_eq_true] at h
  obtain ⟨h1, h2⟩ := h
  rintro (⟨v, w, hv, hw, hne, h3⟩ | ⟨i, hi⟩)
  · rw [List.all_eq_true] at h1
    have h4 := h1 v (List.mem_range.2 (by omega))
    rw [List.all_eq_true] at h4
    have h5 := h4 w (List.mem_range.2 (by omega))
    rw [Int.toNat_natCast] at h3
    simp [hne, h3] at h5
  · rw [Int.toNat_natCast] at hi
    exact calm (List.isEmpty_iff.1 h2) i hi
/-- the ways go round, by these places -/
theorem round_bad {N : Nat} {es : List (Int × Int)} {rs : List (List Int)} {i : Nat} {r : List Nat} (h : runs (rowsOf N rs (Plan.hops (N : Int) es)) i r i = true) : Bad (N : Int) es rs :=
  .inr ⟨i, by rw [Int.toNat_natCast]; exact runs_plus r i i i (.inl rfl) h⟩
/-- chains and rings of N nodes -/
def chainE (N : Nat) : List (Int × Int) := (List.range (N - 1)).map fun (v : Nat) => ((v : Int), ((v + 1 : Nat) : Int))
def ringE (N : Nat) : List (Int × Int) := chainE N ++ [(0, ((N - 1 : Nat) : Int))]
def chainN (N : Nat) : List (List Int) := (List.range N).map fun (v : Nat) => (List.range N).map fun (w : Nat) => if v < w then ((v + 1 : Nat) : Int) else if w < v then ((v - 1 : Nat) : Int) else (v : Int)
def ringN (N : Nat) : List (List Int) := (List.range N).map fun (v : Nat) => (List.range N).map fun (w : Nat) => if v = w then (v : Int) else (((v + 1) % N : Nat) : Int)
theorem chain_fine {N : Nat} (h3 : 3 ≤ N) (h6 : N ≤ 6) : ¬ Bad (N : Int) (chainE N) (chainN N) ∧ Plan.edgesOk (N : Int) (chainE N) = true := by
  have h : N = 3 ∨ N = 4 ∨ N = 5 ∨ N = 6 := by omega
  rcases h with rfl | rfl | rfl | rfl
  · exact ⟨fine_not (by decide +kernel), by decide +kernel⟩
  · exact ⟨fine_not (by decide +kernel), by decide +kernel⟩
  · exact ⟨fine_not (by decide +kernel), by decide +kernel⟩
  · exact ⟨fine_not (by decide +kernel), by decide +kernel⟩
theorem ring_bad {N : Nat} (h3 : 3 ≤ N) (h6 : N ≤ 6) : Bad (N : Int) (ringE N) (ringN N) ∧ Plan.edgesOk (N : Int) (ringE N) = true := by
  have h : N = 3 ∨ N = 4 ∨ N = 5 ∨ N = 6 := by omega
  rcases h with rfl | rfl | rfl | rfl
  · exact ⟨round_bad (i := 0) (r := [3, 4]) (by decide +kernel), by decide +kernel⟩
  · exact ⟨round_bad (i := 0) (r := [3, 5, 6]) (by decide +kernel), by decide +kernel⟩
  · exact ⟨round_bad (i := 0) (r := [3, 5, 7, 8]) (by decide +kernel), by decide +kernel⟩
  · exact ⟨round_bad (i := 0) (r := [3, 5, 7, 9, 10]) (by decide +kernel), by decide +kernel⟩

/-- all joined, each straight -/
def straightB (N : Nat) : Bool := fineB N (Plan.full 65535 N) (mkRows N []) && ((rowsOf N (mkRows N []) (Plan.hops (N : Int) (Plan.full 65535 N))).all fun r => r.isEmpty) && ((List.range N).all fun v => (List.range N).all fun w => (go (Plan.full 65535 N) (mkRows N []) (w : Int) (N - 1) (v : Int)).length == (if v = w then 1 else 2)) && (Plan.hops (N : Int) (Plan.full 65535 N)).length == N * (N - 1)
theorem straight {N : Nat} (h2 : 2 ≤ N) (h6 : N ≤ 6) : straightB N = true := by
  have h : N = 2 ∨ N = 3 ∨ N = 4 ∨ N = 5 ∨ N = 6 := by omega
  rcases h with rfl | rfl | rfl | rfl | rfl <;> decide +kernel
/-- a tree's plan -/
def q_route (ps : List Int) : Bool := decide (ps.length = 0) || (fineB (ps.length + 1) (Tree.edges ps) (Tree.rows ps) && ((List.range (ps.length + 1)).all fun v => (List.range (ps.length + 1)).all fun w => go (Tree.edges ps) (Tree.rows ps) (w : Int) ps.length (v : Int) == Tree.path ps v w))
set_option maxRecDepth 1000000 in
set_option maxHeartbeats 4000000 in
theorem trees_all : (Tree.all5.all q_route) = true := by decide +kernel
theorem tree_fine {ps : List Int} (ho : Tree.layOk ps = true) : ¬ Bad ((ps.length + 1 : Nat) : Int) (Tree.edges ps) (Tree.rows ps) ∧ ∀ v w : Nat, v ≤ ps.length → w ≤ ps.length → go (Tree.edges ps) (Tree.rows ps) (w : Int) ps.length (v : Int) = Tree.path ps v w := by
  unfold Tree.layOk at ho
  rw [Bool.and_eq_true, decide_eq_true_eq] at ho
  have h := List.all_eq_true.1 trees_all ps (Tree.mem_all5 ho.1)
  unfold q_route at h
  simp only [Bool.or_eq_true, Bool.and_eq_true, decide_eq_true_eq, List.all_eq_true] at h
  rcases h with h | ⟨h1, h2⟩
  · exact absurd h ho.2
  · exact ⟨fine_not h1, fun v w hv hw => eq_of_beq (h2 v (List.mem_range.2 (by omega)) w (List.mem_range.2 (by omega)))⟩
/-- the chapter's examples -/
def ring3 : List (List Int) := [[0, 1, 1], [2, 1, 2], [0, 0, 2]]
theorem known_ring : Bad 3 (Plan.full 7 3) ring3 ∧ ¬ Bad 3 (Plan.full 7 3) (mkRows 3 []) ∧ go (Plan.full 7 3) ring3 2 2 0 = [0, 1, 2] ∧ (rowsOf 3 ring3 (Plan.hops 3 (Plan.full 7 3))).length = 6 :=
  ⟨round_bad (N := 3) (i := 0) (r := [3, 4]) (by decide +kernel), fine_not (N := 3) (by decide +kernel), by decide +kernel, by decide +kernel⟩
end Go.Proofs.Ytphaaolnmbadcaa.Route
