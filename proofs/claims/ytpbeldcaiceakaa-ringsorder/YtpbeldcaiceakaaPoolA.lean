/-
  Package pool, as it landed: its stack. Conditions: none but that the stack is one, of at most two hundred.
-/
import Derived.Test.YtpbeldcaiceakaaPoolMath
import Derived.Test.YtpbeldcaiceakaaOwns
namespace Go.Proofs.Ytpbeldcaiceakaa
open Go.ChangeShapes Go.WideShapes Go.ChangeAt Go.RowKit
set_option linter.unusedVariables false

/-- what fresh has laid so far, in block G -/
structure Falling (w wr : World) (n k : Nat) : Prop where
  lt : k ≤ n
  bel : Below w.heap.size w wr
  own : ∃ xs, wr.ownsRow 0 3 1 (.slice (some ⟨w.heap.size, 0, none⟩) n n) n xs ∧ xs.take k = ints ((down n).take k)
theorem Falling.next {w wr : World} {n k : Nat} (h : Falling w wr n k) (hk : k < n) : Falling w (wr.setCell ⟨w.heap.size, k, none⟩ (.int .i64 (n - 1 - k : Nat))) n (k + 1) := by
  obtain ⟨xs, hx, ht⟩ := h.own
  refine ⟨hk, h.bel.trans ((Sans.of_set wr ⟨w.heap.size, k, none⟩ (.int .i64 (n - 1 - k : Nat)) (F := fun j => j = w.heap.size) rfl).below h.bel.size (fun j hj => by omega)), _, (hx.stored k _).1, ?_⟩
  have hl := hx.1
  rw [take_set_snoc _ (by omega), ht, List.take_add_one, down_at hk]
  rw [Option.toList_some, ← ints_append]
  rfl
set_option maxHeartbeats 400000 in
theorem fresh_any (n : Nat) (h : 1 ≤ n ∧ n ≤ 200) (w : World) :
    Calls Try.prog 30 #[.int .i64 n] w fun e w' => e = .returned (.slice (some ⟨w.heap.size, 0, none⟩) n n) ∧ w'.ownsRow 0 3 1 (.slice (some ⟨w.heap.size, 0, none⟩) n n) n (ints (down n)) ∧ Below w.heap.size w w' := by
  have hmk := run_make_row' (P := Try.prog) 69 3 (.int .i64 0) 8 Try.underlying69 infoI rfl .i64 .i64 n (by omega) (by omega)
  have HL : Hid (Falling w (w.alloc (.cells (madeCells #[.int .i64 0] n) 3)) n 0) :=
    ⟨Nat.zero_le _, fresh _ _, ⟨_, World.ownsRow_lit w (madeCells #[.int .i64 0] n) n (Nat.zero_le _) (by unfold maxLen; omega) (by rw [size_madeCells]; omega), rfl⟩⟩
  obtain ⟨h1, h2⟩ := h
  go_enter Try.func30, Try.ntmps30
  go_wp2_with fail
  go_loopw [9] (fun i wr => ∃ k : Nat, i = .int .i64 k ∧ Falling w wr n k) (fun i _ => n - (intOf i).toNat)
  case atStart => exact ⟨0, rfl, HL.out⟩
  case round =>
    obtain ⟨k, rfl, hlay⟩ := hrel
    have hk := hlay.lt
    have HY : Hid (Falling w wr n k) := hlay
    clear hlay
    by_cases hkl : k < n
    · obtain ⟨xs, hx, _⟩ := HY.out.own
      have hxl : xs.length = n := by have := hx.1; omega
      obtain ⟨v, hv⟩ : ∃ v, wr.cell? ⟨w.heap.size, k, none⟩ = some v := ⟨_, (owns_cells hx hkl).trans (List.getElem?_eq_getElem (by omega))⟩
      have hf : wr.frozen? ⟨w.heap.size, k, none⟩ = false := hx.frozenAt k
      have hi2 : (k : Int) < n := by omega
      clear hx hxl
      go_wp2_with fail
      go_roundw
      case rel =>
        refine ⟨k + 1, by go_num, ?_⟩
        have := HY.out.next hkl
        rw [show ((n - 1 - k : Nat) : Int) = (n : Int) - 1 - k by omega] at this
        exact this
      case measure => simp [intOf]; omega
    · obtain rfl : k = n := by omega
      go_wp2_with fail
      go_ret
      obtain ⟨xs, hx, ht⟩ := HY.out.own
      have hxl : xs.length = k := by have := hx.1; omega
      rw [List.take_of_length_le (by omega), List.take_of_length_le (by rw [down_length]; omega)] at ht
      rw [ht] at hx
      exact ⟨rfl, hx, HY.out.bel⟩
set_option maxHeartbeats 400000 in
theorem pop_none (p n g : Nat) (w : World) (hc : w.cell? ⟨p, 1, none⟩ = some (.slice (some ⟨g, 0, none⟩) 0 n)) :
    Calls Try.prog 35 #[.pointer (some ⟨p, 1, none⟩)] w fun e w' => e = .returned (.tuple #[.int .i64 0, .bool false]) ∧ w' = w := by
  go_enter Try.func35, Try.ntmps35
  go_wp2_with fail
  go_ret2
  exact ⟨rfl, rfl⟩
set_option maxHeartbeats 400000 in
theorem pop_some (p n g k m : Nat) (w : World) (hc : w.cell? ⟨p, 1, none⟩ = some (.slice (some ⟨g, 0, none⟩) (m + 1) n)) (hf : w.frozen? ⟨p, 1, none⟩ = false) (hk : w.cell? ⟨g, m, none⟩ = some (.int .i64 k)) (hm : m < n) (hn : n ≤ 200) :
    Calls Try.prog 35 #[.pointer (some ⟨p, 1, none⟩)] w fun e w' => e = .returned (.tuple #[.int .i64 k, .bool true]) ∧ w' = w.setCell ⟨p, 1, none⟩ (.slice (some ⟨g, 0, none⟩) m n) := by
  have h1 : ¬ ((m : Int) + 1 - 1 < 0) := by omega
  have h2 : (m : Int) < (m : Int) + 1 := by omega
  have h3 : (m : Int) ≤ n := by omega
  go_enter Try.func35, Try.ntmps35
  go_wp2_with fail
  go_ret2
  exact ⟨rfl, rfl⟩
theorem push_end {w u : World} {p g m n : Nat} {v : Value} {o : Obj} {xs ys : List Value} (hgp : g ≠ p) (hp : p < w.heap.size) (h : u.ownsRow 0 3 1 (.slice (some ⟨g, 0, none⟩) m n) m ys) (hg : (w.alloc o).grownBy u (some g)) (hc : u.cell? ⟨p, 1, none⟩ = some v) :
    (u.setCell ⟨p, 1, none⟩ (.slice (some ⟨g, 0, none⟩) m n)).ownsRow 0 3 1 (.slice (some ⟨g, 0, none⟩) m n) m ys ∧ Sans (fun k => k = p ∨ k = g) w (u.setCell ⟨p, 1, none⟩ (.slice (some ⟨g, 0, none⟩) m n)) ∧ (u.setCell ⟨p, 1, none⟩ (.slice (some ⟨g, 0, none⟩) m n)).cell? ⟨p, 1, none⟩ = some (.slice (some ⟨g, 0, none⟩) m n) ∧ (u.setCell ⟨p, 1, none⟩ (.slice (some ⟨g, 0, none⟩) m n)).cell? ⟨p, 0, none⟩ = w.cell? ⟨p, 0, none⟩ ∧ (u.setCell ⟨p, 1, none⟩ (.slice (some ⟨g, 0, none⟩) m n)).frozen? ⟨p, 1, none⟩ = w.frozen? ⟨p, 1, none⟩ := by
  have S1 : Sans (fun k => k = g) w u := (Sans.alloc w o).then (Sans.of_grown hg (fun k e => by cases e; rfl))
  refine ⟨owns_at h (Sans.of_set u ⟨p, 1, none⟩ _ (F := fun k => k = p) rfl) hgp, (S1.mono (fun k e => .inr e)).then (Sans.of_set u ⟨p, 1, none⟩ _ (.inl rfl)), World.cell?_setCell_same _ _ _ hc, ?_, ?_⟩
  · rw [World.cell?_setCell_other]
    · exact S1.cell (p := ⟨p, 0, none⟩) hp (fun e => hgp e.symm)
    · simp
  · rw [World.frozen?_setCell]
    exact S1.frozen (p := ⟨p, 1, none⟩) hp (fun e => hgp e.symm)
set_option maxHeartbeats 400000 in
theorem push_any (p n g k m : Nat) (E : List Nat) (w : World) (hc : w.cell? ⟨p, 1, none⟩ = some (.slice (some ⟨g, 0, none⟩) m n)) (hf : w.frozen? ⟨p, 1, none⟩ = false) (ho : w.ownsRow 0 3 1 (.slice (some ⟨g, 0, none⟩) m n) m (ints E)) (hm : m < n) (hgp : g ≠ p) :
    Calls Try.prog 36 #[.pointer (some ⟨p, 1, none⟩), .int .i64 k] w fun e w' => e = .returned (.tuple #[]) ∧ w'.ownsRow 0 3 1 (.slice (some ⟨g, 0, none⟩) (m + 1) n) (m + 1) (ints (E ++ [k])) ∧ Sans (fun k => k = p ∨ k = g) w w' ∧ w'.cell? ⟨p, 1, none⟩ = some (.slice (some ⟨g, 0, none⟩) (m + 1) n) ∧ w'.cell? ⟨p, 0, none⟩ = w.cell? ⟨p, 0, none⟩ ∧ w'.frozen? ⟨p, 1, none⟩ = w.frozen? ⟨p, 1, none⟩ := by
  obtain ⟨i0, hi0, hz0, hz1, hz2⟩ := info_parts infoI
  have HO : Hid (w.ownsRow 0 3 1 (.slice (some ⟨g, 0, none⟩) m n) m (ints E)) := ho
  have hp : p < w.heap.size := cell_lt hc
  clear ho
  go_enter Try.func36, Try.ntmps36
  go_wp2_with (at_builtin; refine wpList_append_fits _ rfl _ _ 69 rfl 0 3 i0 1 Try.underlying69 hi0 hz1 g m n (ints E) rfl (HO.out.alloc _) _ 1 1 [.int .i64 k] rfl rfl (one_cell w k) (one_one k) (by omega) ?_; intro u hown hg; have hcu : u.cell? ⟨p, 1, none⟩ = some (.slice (some ⟨g, 0, none⟩) m n) := hg.cell (a := ⟨p, 1, none⟩) (((fresh w _).cell (p := ⟨p, 1, none⟩) hp).trans hc) (fun e => by cases e; exact hgp rfl); have hfu : u.frozen? ⟨p, 1, none⟩ = false := ((Sans.of_grown (F := fun k => k = g) hg (fun k e => by cases e; rfl)).frozen (p := ⟨p, 1, none⟩) (by simp; omega) (fun e => hgp e.symm)).trans (((fresh w _).frozen (p := ⟨p, 1, none⟩) hp).trans hf))
  go_end0
  have := push_end (xs := []) hgp hp hown hg hcu
  rw [show ints E ++ [Value.int .i64 (k : Nat)] = ints (E ++ [k]) from ints_append E [k]] at this
  exact ⟨rfl, this⟩
end Go.Proofs.Ytpbeldcaiceakaa
