/-
  New of package shunterref11, the document's edges and Check (package shunterref12). Conditions: none but that the plan's rows are led to.
-/
import Derived.Test.YtphaaolnmbadcaaRefPlanC
namespace Go.Proofs.Ytphaaolnmbadcaa
open Go.ChangeShapes Go.WideShapes Go.ChangeAt Go.RowKit
set_option linter.unusedVariables false

namespace Plan
theorem wsOk_bad {ws : List Int} {k : Nat} (hk : k < ws.length) (h : ¬ (1 ≤ ws.getD k 0 ∧ ws.getD k 0 ≤ 5)) : wsOk ws = false := by
  unfold wsOk
  have : ws.all (fun x => bnd x 1 5) = false := by
    rw [List.all_eq_false]
    refine ⟨ws.getD k 0, ?_, ?_⟩
    · rw [List.getD_eq_getElem?_getD, List.getElem?_eq_getElem hk]
      exact List.getElem_mem hk
    · unfold bnd
      intro hb
      simp only [Bool.and_eq_true, decide_eq_true_eq] at hb
      exact h hb
  rw [this]
  rfl
theorem wsOk_of {ws : List Int} (h : ∀ k, k < ws.length → 1 ≤ ws.getD k 0 ∧ ws.getD k 0 ≤ 5) : wsOk ws = (decide (1 ≤ ws.length) && decide (ws.length ≤ 3)) := by
  unfold wsOk
  have : ws.all (fun x => bnd x 1 5) = true := by
    rw [List.all_eq_true]
    intro x hx
    obtain ⟨k, hk, rfl⟩ := List.getElem_of_mem hx
    have := h k hk
    rw [List.getD_eq_getElem?_getD, List.getElem?_eq_getElem hk] at this
    unfold bnd
    simp only [Bool.and_eq_true, decide_eq_true_eq]
    exact this
  rw [this, Bool.true_and]
end Plan
set_option maxHeartbeats 2000000 in
set_option maxRecDepth 100000 in
theorem rwheel_any {w : World} {a : Option Addr} {n c : Nat} {ws : List Int} (h : Zr w a n ws) (hn : n ≤ 17592186044416) :
    Calls Try.prog 63 #[.slice a n c] w fun e w' => ∃ q : Option Addr, e = .returned (.pointer q) ∧ (q.isNone = !Plan.wsOk ws) ∧ Below w.heap.size w w' := by
  have HZ : Hid (Zr w a n ws) := h
  have hln := h.1
  clear h
  go_enter Try.func63, Try.ntmps63
  go_wp2_with fail
  go_loopw [3] (fun i wr => ∃ k : Nat, k ≤ n ∧ i = .int .i64 k ∧ (∀ j, j < k → 1 ≤ ws.getD j 0 ∧ ws.getD j 0 ≤ 5) ∧ wr = w) (fun i _ => n - (intOf i).toNat)
  case atStart => exact ⟨0, Nat.zero_le _, rfl, fun j hj => by omega, rfl⟩
  case round =>
    obtain ⟨k, hk, rfl, hno, rfl⟩ := hrel
    have HN : Hid (∀ j, j < k → 1 ≤ ws.getD j 0 ∧ ws.getD j 0 ≤ 5) := hno
    clear hno
    by_cases hkn : k < n
    · obtain ⟨b, off, ha, hc⟩ := HZ.out.at hkn
      subst ha
      obtain ⟨y, hy⟩ : ∃ y, ws.getD k 0 = y := ⟨_, rfl⟩
      have HY : Hid (ws.getD k 0 = y) := hy
      rw [hy] at hc
      clear hy
      by_cases h1 : 1 ≤ y
      · by_cases h2 : y ≤ 5
        · have h1' : ¬ y < 1 := by omega
          have h2' : ¬ 5 < y := by omega
          go_wp2_with fail
          go_roundw
          case rel => exact ⟨k + 1, by omega, by go_num, fun j hj => by
            by_cases e : j = k
            · rw [e, HY.out]; exact ⟨h1, h2⟩
            · exact HN.out j (by omega), by first | rfl | trivial⟩
          case measure => simp [intOf]; omega
        · have h1' : ¬ y < 1 := by omega
          have h2' : 5 < y := by omega
          have HB := Plan.wsOk_bad (ws := ws) (k := k) (by omega) (by rw [HY.out]; omega)
          have HBad : Hid (Plan.wsOk ws = false) := HB
          clear HB
          go_wp2_with fail
          go_ret
          exact ⟨none, rfl, by rw [HBad.out]; rfl, Below.refl _ _⟩
      · have h1' : y < 1 := by omega
        have HB := Plan.wsOk_bad (ws := ws) (k := k) (by omega) (by rw [HY.out]; omega)
        have HBad : Hid (Plan.wsOk ws = false) := HB
        clear HB
        go_wp2_with fail
        go_ret
        exact ⟨none, rfl, by rw [HBad.out]; rfl, Below.refl _ _⟩
    · obtain rfl : k = n := by omega
      have HW := Plan.wsOk_of (ws := ws) (fun j hj => HN.out j (by omega))
      by_cases h1 : k < 1
      · have HB : Hid (Plan.wsOk ws = false) := by show _ = _; rw [HW]; simp; omega
        clear HW
        have h1' : (k : Int) < 1 := by omega
        go_wp2_with fail
        go_ret
        exact ⟨none, rfl, by rw [HB.out]; rfl, Below.refl _ _⟩
      · have h1' : ¬ (k : Int) < 1 := by omega
        by_cases h3 : 3 < k
        · have HB : Hid (Plan.wsOk ws = false) := by show _ = _; rw [HW]; simp; omega
          clear HW
          have h3' : (3 : Int) < k := by omega
          go_wp2_with fail
          go_ret
          exact ⟨none, rfl, by rw [HB.out]; rfl, Below.refl _ _⟩
        · have HB : Hid (Plan.wsOk ws = true) := by show _ = _; rw [HW]; simp; omega
          clear HW
          have h3' : ¬ (3 : Int) < k := by omega
          obtain ⟨b, off, ha, _⟩ := HZ.out.at (k := 0) (by omega)
          subst ha
          go_wp2_with (first
            | (at_builtin; refine wpList_append_z rfl (.tmp 37) (.tmp 38) rfl (wr.heap.size + 1) (.slice none 0 0) [] rfl (World.ownsRow_nil _ _ _ _) (by simp) _ k _ ws rfl (HZ.out.below (fresh _ _)) (fun e => by cases e) (by simp; omega) ws rfl ?_; intro v1 w1 hown1 hB1; obtain ⟨a1, cap1, rfl, _⟩ := zr_of_owns hown1; have q0 : w1.cell? ⟨wr.heap.size, 0, none⟩ = some (.slice none 0 0) := (hB1.cell (p := ⟨wr.heap.size, 0, none⟩) (by simp)).trans (by simp); have q1 : w1.cell? ⟨wr.heap.size, 1, none⟩ = some (.slice none 0 0) := (hB1.cell (p := ⟨wr.heap.size, 1, none⟩) (by simp)).trans (by simp); have f0 : w1.frozen? ⟨wr.heap.size, 0, none⟩ = false := (hB1.frozen (p := ⟨wr.heap.size, 0, none⟩) (by simp)).trans (by simp); have f1 : w1.frozen? ⟨wr.heap.size, 1, none⟩ = false := (hB1.frozen (p := ⟨wr.heap.size, 1, none⟩) (by simp)).trans (by simp); have HB1 : Hid (Below (wr.heap.size + 1) (wr.alloc (.cells #[.slice none 0 0, .slice none 0 0, .int .i64 0] 96)) w1) := hB1; clear hown1 hB1)
            | (at_builtin; refine wpList_append_z rfl (.tmp 46) (.tmp 47) rfl (wr.heap.size + 1) (.slice none 0 0) [] rfl (World.ownsRow_nil _ _ _ _) (by have := HB1.out.size; simp at this; simp; omega) _ k _ ws rfl (HZ.out.below (((later (fresh _ _) (HB1.out.mono (by simp)))).setCell (by simp) _)) (fun e => by cases e) (by simp; omega) ws rfl ?_; intro v2 w2 hown2 hB2; obtain ⟨a2, cap2, rfl, _⟩ := zr_of_owns hown2; have q2 : w2.cell? ⟨wr.heap.size, 1, none⟩ = some (.slice none 0 0) := (hB2.cell (p := ⟨wr.heap.size, 1, none⟩) (by simp)).trans (cell_set q1 (by omega)); have f2 : w2.frozen? ⟨wr.heap.size, 1, none⟩ = false := (hB2.frozen (p := ⟨wr.heap.size, 1, none⟩) (by simp)).trans (by rw [World.frozen?_setCell]; exact f1); have HB2 : Hid (Below wr.heap.size wr w2) := (((later (fresh _ _) (HB1.out.mono (by simp)))).setCell (by simp) _).trans (hB2.mono (by simp)); clear hown2 hB2 q0 q1 f0 f1))
          go_ret
          exact ⟨_, rfl, by rw [HB.out]; rfl, HB2.out.setCell (by simp) _⟩
end Go.Proofs.Ytphaaolnmbadcaa
