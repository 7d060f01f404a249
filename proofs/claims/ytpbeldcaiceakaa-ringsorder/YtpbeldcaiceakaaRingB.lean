/-
  Queues' rows of numbers (a slice that may begin anywhere in its row), append to them, what stays of them. Conditions: none but sizes.
-/
import Derived.Test.YtpbeldcaiceakaaRingA
namespace Go.Proofs.Ytpbeldcaiceakaa
open Go.ChangeShapes Go.WideShapes Go.ChangeAt Go.RowKit
set_option linter.unusedVariables false

/-- the block that a slice leads to -/
def vblk (v : Value) (g : Nat) : Prop := ∃ off n c, v = .slice (some ⟨g, off, none⟩) n c
theorem vblk_nil {g : Nat} : ¬ vblk nilS g := by rintro ⟨_, _, _, e⟩; cases e
theorem vblk_some {g g' off n c : Nat} (h : vblk (.slice (some ⟨g, off, none⟩) n c) g') : g' = g := by
  obtain ⟨_, _, _, e⟩ := h
  cases e
  rfl
/-- the slice v holds the numbers E; all its cells are there and may be written -/
def QRow (w : World) (v : Value) (E : List Nat) : Prop :=
  (v = nilS ∧ E = []) ∨ ∃ g off cap, v = .slice (some ⟨g, off, none⟩) E.length cap ∧ g < w.heap.size ∧ E.length ≤ cap ∧ cap ≤ maxLen ∧ (∀ (j k : Nat), E[j]? = some k → w.cell? ⟨g, off + j, none⟩ = some (.int .i64 (k : Nat))) ∧
    ∀ j, j < cap → (w.cell? ⟨g, off + j, none⟩).isSome = true ∧ w.frozen? ⟨g, off + j, none⟩ = false
theorem QRow.nil (w : World) : QRow w nilS [] := .inl ⟨rfl, rfl⟩
theorem QRow.lt {w : World} {v : Value} {E : List Nat} (h : QRow w v E) {g : Nat} (hg : vblk v g) : g < w.heap.size := by
  rcases h with ⟨rfl, _⟩ | ⟨g', off, cap, rfl, hlt, _⟩
  · exact absurd hg vblk_nil
  · rw [vblk_some hg]; exact hlt
theorem QRow.sans {F : Nat → Prop} {w w' : World} {v : Value} {E : List Nat} (h : QRow w v E) (k : Sans F w w') (hn : ∀ g, vblk v g → ¬ F g) : QRow w' v E := by
  rcases h with h | ⟨g, off, cap, rfl, hlt, h1, h2, h3, h4⟩
  · exact .inl h
  · have hg := hn g ⟨_, _, _, rfl⟩
    have ec : ∀ j, w'.cell? ⟨g, off + j, none⟩ = w.cell? ⟨g, off + j, none⟩ := fun j => k.cell (p := ⟨g, off + j, none⟩) hlt hg
    have ef : ∀ j, w'.frozen? ⟨g, off + j, none⟩ = w.frozen? ⟨g, off + j, none⟩ := fun j => k.frozen (p := ⟨g, off + j, none⟩) hlt hg
    exact .inr ⟨g, off, cap, rfl, Nat.lt_of_lt_of_le hlt k.size, h1, h2, fun j x hx => (ec j).trans (h3 j x hx), fun j hj => ⟨by rw [ec]; exact (h4 j hj).1, by rw [ef]; exact (h4 j hj).2⟩⟩
theorem QRow.below {w w' : World} {v : Value} {E : List Nat} (h : QRow w v E) (k : Below w.heap.size w w') : QRow w' v E := h.sans (F := fun _ => False) (Sans.of_below k) (fun _ _ e => e)
/-- a row of the call's own, from its beginning on -/
theorem QRow.of_owns {w : World} {base : Nat} {v : Value} {n : Nat} {E : List Nat} (h : w.ownsRow base 3 1 v n (ints E)) : QRow w v E := by
  have hl := h.1
  rw [ints_length] at hl
  rcases h.2 with ⟨rfl, h0⟩ | ⟨g, cap, cur, rfl, _, hg, hn, hc, hs, ht⟩
  · exact .inl ⟨rfl, List.length_eq_zero_iff.1 (by omega)⟩
  · have hnl : n = E.length := by omega
    subst hnl
    refine .inr ⟨g, 0, cap, rfl, ?_, hn, hc, fun j k hk => ?_, fun j hj => ⟨?_, ?_⟩⟩
    · rcases Nat.lt_or_ge g w.heap.size with h' | h'
      · exact h'
      · simp [Array.getElem?_eq_none h'] at hg
    · rw [Nat.zero_add, owns_cells h (List.getElem?_eq_some_iff.1 hk).1]
      exact ints_at hk
    · rw [Nat.zero_add]
      simp [World.cell?, hg]
      omega
    · exact h.frozenAt _
theorem vblk_own {v : Value} {g : Nat} (h : vblk v g) : v.ownBlock = some g := by
  obtain ⟨off, n, c, rfl⟩ := h
  rfl
theorem qcells {w : World} {g off n : Nat} {E : List Nat} (h3 : ∀ (j k : Nat), E[j]? = some k → w.cell? ⟨g, off + j, none⟩ = some (.int .i64 (k : Nat))) : ∀ j u, (ints E)[j]? = some u → w.cell? ((⟨g, off, none⟩ : Addr).add j) = some u := by
  intro j u hj
  unfold ints at hj
  rw [List.getElem?_map] at hj
  cases hk : E[j]? with
  | none => rw [hk] at hj; cases hj
  | some k =>
    rw [hk] at hj
    simp at hj
    subst hj
    rw [Addr.add_lit]
    exact h3 j k hk
theorem QRow.append (ty : TypeId) {w : World} {v : Value} {E : List Nat} (h : QRow w v E) (k : Nat) (ad : Addr) (c : Nat) (hk : ∀ (j : Nat) (u : Value), [Value.int .i64 k][j]? = some u → w.cell? (ad.add j) = some u) (hE : E.length ≤ 1000) :
    ∃ v' w', (Builtin.append_ #[58, 58] ty #[v, .slice (some ad) 1 c]).run Try.prog w = .ok v' w' ∧ QRow w' v' (E ++ [k]) ∧ Sans (vblk v) w w' ∧ ∀ g, vblk v' g → vblk v g ∨ w.heap.size ≤ g := by
  obtain ⟨i0, hi, hz0, hz1, hz2⟩ := info_parts infoI
  rcases h with ⟨rfl, rfl⟩ | ⟨g, off, cap, rfl, hlt, h1, h2, h3, h4⟩
  · obtain ⟨v', w', hrun, hown, hg, _, hat⟩ := run_append_own_at (P := Try.prog) w 0 58 ty 3 i0 (.int .i64 0) 1 8 Try.underlying58 hi hz0 hz1 hz2 rfl (by decide) nilS 0 [] (World.ownsRow_nil w 0 _ 1) ad 1 c [.int .i64 k] rfl hk (one_one k) (by unfold maxLen; omega) (by omega) (Nat.zero_le _)
    refine ⟨v', w', hrun, QRow.of_owns (E := [k]) hown, Sans.of_grown hg (fun k e => by simp [nilS, Value.ownBlock] at e), fun g hv => ?_⟩
    have e := vblk_own hv
    rcases hat with h | h
    · rw [e] at h; simp [nilS, Value.ownBlock] at h
    · rw [e] at h; cases h; exact .inr (Nat.le_refl _)
  · by_cases hr : E.length + 1 ≤ cap
    · have hrun := run_append_room_cells (P := Try.prog) w 58 ty 3 i0 Try.underlying58 hi g off E.length cap ad 1 c [.int .i64 k] (by rw [hz1]; rfl) hk (one_one k) hr
        (fun j hj => by simp at hj; subst hj; rw [hz1, Nat.mul_one]; exact (h4 E.length (by omega)).1) (fun j hj => by simp at hj; subst hj; rw [hz1, Nat.mul_one]; exact (h4 E.length (by omega)).2)
      rw [hz1, Nat.mul_one] at hrun
      have e1 : w.setCells g (off + E.length) [.int .i64 (k : Nat)] = w.setCell ⟨g, off + E.length, none⟩ (.int .i64 (k : Nat)) := rfl
      rw [e1] at hrun
      have SS : Sans (vblk (.slice (some ⟨g, off, none⟩) E.length cap)) w (w.setCell ⟨g, off + E.length, none⟩ (.int .i64 (k : Nat))) := Sans.of_set w ⟨g, off + E.length, none⟩ _ ⟨_, _, _, rfl⟩
      obtain ⟨x, hx⟩ : ∃ x, w.cell? ⟨g, off + E.length, none⟩ = some x := Option.isSome_iff_exists.1 (h4 E.length (by omega)).1
      refine ⟨_, _, hrun, .inr ⟨g, off, cap, by rw [List.length_append]; rfl, Nat.lt_of_lt_of_le hlt SS.size, by rw [List.length_append]; exact hr, h2, fun j y hj => ?_, fun j hj => ⟨?_, ?_⟩⟩, SS, fun g' hv => .inl (by rw [vblk_some hv]; exact ⟨_, _, _, rfl⟩)⟩
      · by_cases e : j = E.length
        · subst e
          rw [List.getElem?_append_right (Nat.le_refl _)] at hj
          simp at hj
          subst hj
          exact World.cell?_setCell_same _ _ _ hx
        · have hjl : j < E.length := by
            have := (List.getElem?_eq_some_iff.1 hj).1
            rw [List.length_append] at this
            simp at this
            omega
          rw [List.getElem?_append_left hjl] at hj
          exact cell_set (h3 j y hj) (by omega)
      · by_cases e : j = E.length
        · subst e
          rw [World.cell?_setCell_same _ _ _ hx]; rfl
        · obtain ⟨y, hy⟩ := Option.isSome_iff_exists.1 (h4 j hj).1
          rw [cell_set hy (by omega)]; rfl
      · rw [World.frozen?_setCell]
        exact (h4 j hj).2
    · obtain ⟨v', w', hrun, hown, hg⟩ := run_append_arg_grows (P := Try.prog) w 58 ty 3 i0 (.int .i64 0) 1 8 Try.underlying58 hi hz0 hz1 hz2 rfl (by decide) ⟨g, off, none⟩ E.length cap (ints E) (by rw [ints_length]; omega) (qcells (n := 0) h3) ad 1 c [.int .i64 k] rfl hk (by omega) (by unfold maxLen; omega) (by omega)
      rw [show ints E ++ [Value.int .i64 (k : Nat)] = ints (E ++ [k]) from ints_append E [k]] at hown
      refine ⟨v', w', hrun, QRow.of_owns hown, Sans.of_grown hg (fun k e => by cases e), fun g hv => .inr (hown.lt g (vblk_own hv)).1⟩
theorem QRow.tail {w : World} {g off cap : Nat} {x : Nat} {E : List Nat} (h : QRow w (.slice (some ⟨g, off, none⟩) (E.length + 1) cap) (x :: E)) : QRow w (.slice (some ⟨g, off + 1, none⟩) E.length (cap - 1)) E := by
  rcases h with ⟨e, _⟩ | ⟨g', off', cap', e, hlt, h1, h2, h3, h4⟩
  · cases e
  · simp only [Value.slice.injEq, Option.some.injEq, Addr.mk.injEq, and_true] at e
    obtain ⟨⟨rfl, rfl⟩, _, rfl⟩ := e
    simp only [List.length_cons] at h1
    refine .inr ⟨g, off + 1, cap - 1, rfl, hlt, by omega, by omega, fun j k hk => ?_, fun j hj => ?_⟩
    · rw [show off + 1 + j = off + (j + 1) by omega]
      exact h3 (j + 1) k (by simpa using hk)
    · rw [show off + 1 + j = off + (j + 1) by omega]
      exact h4 (j + 1) (by omega)
/-- append of one number, as a step of a statement whose order is drawn -/
theorem step_push {w : World} {ops : Array Oper} {o : Oper} {a : Act} {K : Act → World → Prop} {Q : Exit → Act → World → Prop} {X : Prop} (hgd : o.guard = none) (s x : Operand)
    (ho : o.op = .call { callee := .builtin .append, args := #[s, x], argTypes := #[58, 58] })
    (v : Value) (E : List Nat) (hs : a.eval s = v) (hr : QRow w v E) (k : Nat) (ad : Addr) (c : Nat) (hx : a.eval x = .slice (some ad) 1 c) (hk : ∀ (j : Nat) (u : Value), [Value.int .i64 k][j]? = some u → w.cell? (ad.add j) = some u) (hE : E.length ≤ 1000)
    (h : ∀ v' w', QRow w' v' (E ++ [k]) → Sans (vblk v) w w' → (∀ g, vblk v' g → vblk v g ∨ w.heap.size ≤ g) → K (a.put o.dst v') w') : if Region.wanted o (yielded ops a.tmps) = true then Oper.wp Try.prog o a w K Q else X := by
  have hw : Region.wanted o (yielded ops a.tmps) = true := by simp [Region.wanted, hgd]
  rw [if_pos hw]
  obtain ⟨v', w', hrun, h1, h2, h3⟩ := hr.append o.type k ad c hk hE
  unfold Oper.wp
  simp [execOp, ho, resolve, invoke, builtin, hs, hx, hrun, Result.andThen]
  exact h v' w' h1 h2 h3
end Go.Proofs.Ytpbeldcaiceakaa
