/-
  Append of bytes to a slice of the call's own, or to one that is full: which block it leads to then, and what was not written. Conditions: none but sizes below 2^40.
-/
import Derived.Test.YtjelfenkbngfiaaOctets
namespace Go.Proofs.Ytjelfenkbngfiaa
open Go.ChangeShapes Go.WideShapes Go.ChangeAt Go.RowKit
set_option linter.unusedVariables false

/-- from w to w' nothing was written but (a part of) row r, and new blocks; g is r or new -/
def Moved (w w' : World) (r : Option Nat) (g : Nat) : Prop := w.grownBy w' r ∧ (r = some g ∨ w.heap.size ≤ g)
theorem Moved.trans {w w1 w2 : World} {r : Option Nat} {g g2 : Nat} (h : Moved w w1 r g) (k : Moved w1 w2 (some g) g2) : Moved w w2 r g2 := by
  refine ⟨⟨k.1.os.trans h.1.os, k.1.tape.trans h.1.tape, k.1.output.trans h.1.output, Nat.le_trans h.1.size k.1.size, fun j hj hn => ?_⟩, ?_⟩
  · refine (k.1.block j (Nat.lt_of_lt_of_le hj h.1.size) ?_).trans (h.1.block j hj hn)
    rcases h.2 with h2 | h2
    · rw [← h2]; exact hn
    · intro e; cases e; omega
  · rcases k.2 with k2 | k2
    · cases k2; exact h.2
    · exact .inr (Nat.le_trans h.1.size k2)
theorem Moved.later {w w1 w2 : World} {r : Option Nat} {g : Nat} (h : Moved w w1 r g) (k : Below w1.heap.size w1 w2) : Moved w w2 r g :=
  ⟨⟨k.os.trans h.1.os, k.tape.trans h.1.tape, k.output.trans h.1.output, Nat.le_trans h.1.size k.size, fun j hj hn => (k.block j (Nat.lt_of_lt_of_le hj h.1.size)).trans (h.1.block j hj hn)⟩, h.2⟩
theorem Moved.ahead {w w1 w2 : World} {r : Option Nat} {g : Nat} (k : Below w.heap.size w w1) (h : Moved w1 w2 r g) : Moved w w2 r g :=
  ⟨⟨h.1.os.trans k.os, h.1.tape.trans k.tape, h.1.output.trans k.output, Nat.le_trans k.size h.1.size, fun j hj hn => (h.1.block j (Nat.lt_of_lt_of_le hj k.size) hn).trans (k.block j hj)⟩, h.2.imp id (fun h2 => Nat.le_trans k.size h2)⟩
theorem Moved.below {w w' : World} {g : Nat} (h : Moved w w' none g) : Below w.heap.size w w' ∧ w.heap.size ≤ g :=
  ⟨⟨h.1.os, h.1.tape, h.1.output, h.1.size, fun j hj => h.1.block j hj (by simp)⟩, h.2.elim (fun e => by cases e) id⟩
/-- a row that is new since w0 -/
theorem Moved.since {w0 w w' : World} {r g : Nat} (k : Below w0.heap.size w0 w) (hr : w0.heap.size ≤ r) (h : Moved w w' (some r) g) : Below w0.heap.size w0 w' ∧ w0.heap.size ≤ g :=
  ⟨k.trans ⟨h.1.os, h.1.tape, h.1.output, h.1.size, fun j hj => h.1.block j (Nat.lt_of_lt_of_le hj k.size) (by intro e; cases e; omega)⟩, h.2.elim (fun e => by cases e; exact hr) (fun h2 => Nat.le_trans k.size h2)⟩
theorem Moved.cell {w w' : World} {r : Option Nat} {g : Nat} (h : Moved w w' r g) {p : Addr} (hp : p.block < w.heap.size) (hn : some p.block ≠ r) : w'.cell? p = w.cell? p := World.cell?_of_block (w := w) (h.1.block p.block hp hn)
theorem Moved.frozen {w w' : World} {r : Option Nat} {g : Nat} (h : Moved w w' r g) {p : Addr} (hp : p.block < w.heap.size) (hn : some p.block ≠ r) : w'.frozen? p = w.frozen? p := World.frozen?_of_block (w := w) (h.1.block p.block hp hn)
theorem Own.raise {w : World} {base base' g len cap : Nat} {l : List Nat} (h : Own w base (some ⟨g, 0, none⟩) len cap l) (hb : base' ≤ g) : Own w base' (some ⟨g, 0, none⟩) len cap l := by
  refine ⟨⟨h.1.1, ?_⟩, h.2⟩
  rcases h.1.2 with ⟨e, _⟩ | ⟨g', c, cur, e, _, r⟩
  · cases e
  · obtain ⟨e1, e2, e3⟩ : some (⟨g, 0, none⟩ : Addr) = some ⟨g', 0, none⟩ ∧ True ∧ cap = c := by
      simp only [Value.slice.injEq] at e; exact ⟨e.1, trivial, e.2.2⟩
    cases e1
    exact .inr ⟨g, c, cur, by rw [e3], hb, r⟩

/-- the slice can be appended to: it is the call's own (row r), or it is full -/
def Onto (w : World) (r : Option Nat) (a : Option Addr) (len cap : Nat) (l : List Nat) : Prop :=
  (∃ g, r = some g ∧ a = some ⟨g, 0, none⟩ ∧ Own w 0 a len cap l) ∨ (r = none ∧ Octs w a len l ∧ cap = len ∧ 0 < len)
theorem Onto.below {w w' : World} {r : Option Nat} {a : Option Addr} {len cap : Nat} {l : List Nat} (h : Onto w r a len cap l) (k : Below w.heap.size w w') : Onto w' r a len cap l :=
  h.imp (fun ⟨g, h1, h2, h3⟩ => ⟨g, h1, h2, h3.below k⟩) (fun ⟨h1, h2, h3⟩ => ⟨h1, h2.below k, h3⟩)
theorem Onto.octs {w : World} {r : Option Nat} {a : Option Addr} {len cap : Nat} {l : List Nat} (h : Onto w r a len cap l) : Octs w a len l := by
  rcases h with ⟨g, h1, h2, h3⟩ | ⟨h1, h2, h3⟩
  · exact h3.octs
  · exact h2
theorem Onto.own {w : World} {base g len cap : Nat} {l : List Nat} (h : Own w base (some ⟨g, 0, none⟩) len cap l) : Onto w (some g) (some ⟨g, 0, none⟩) len cap l := .inl ⟨g, rfl, rfl, h.raise (Nat.zero_le _)⟩

theorem add_none (b off j : Nat) : (⟨b, off, none⟩ : Addr).add j = ⟨b, off + j, none⟩ := by
  unfold Addr.add; split
  · rename_i h; rw [h]; rfl
  · rfl
theorem octs_cells {w : World} {b off m : Nat} {l : List Nat} (h : Octs w (some ⟨b, off, none⟩) m l) : ∀ j u, (cellsOf l)[j]? = some u → w.cell? ((⟨b, off, none⟩ : Addr).add j) = some u := by
  intro j u hj
  have hjl : j < l.length := by
    rcases Nat.lt_or_ge j l.length with h' | h'
    · exact h'
    · rw [List.getElem?_eq_none (by rw [cellsOf_length]; exact h')] at hj; cases hj
  rw [cellsOf_at _ _ hjl] at hj
  have hl := h.1
  rcases h.2.2.2 with h0 | ⟨b', off', e, hlt, hc⟩
  · omega
  · cases e
    rw [add_none, hc j (by omega)]
    exact hj
theorem run_append_onto (ty : TypeId) {w : World} {r : Option Nat} {a1 : Option Addr} {len cap : Nat} {l : List Nat} (h : Onto w r a1 len cap l)
    (b off m c : Nat) (l2 : List Nat) (h2 : Octs w (some ⟨b, off, none⟩) m l2) (hm : 0 < m) (hb : len + m ≤ 1099511627776) :
    ∃ g cap' w', (Builtin.append_ #[29, 29] ty #[.slice a1 len cap, .slice (some ⟨b, off, none⟩) m c]).run Try.prog w = .ok (.slice (some ⟨g, 0, none⟩) (len + m) cap') w' ∧ Own w' 0 (some ⟨g, 0, none⟩) (len + m) cap' (l ++ l2) ∧ Moved w w' r g := by
  obtain ⟨i0, hi, hz0, hz1, hz2⟩ := info_parts info8
  have ol := h.octs
  have hl2 := h2.1
  have oct : Crc.Oct (l ++ l2) := fun y hy => by
    rcases List.mem_append.1 hy with hy | hy
    · exact ol.2.2.1 y hy
    · exact h2.2.2.1 y hy
  have hll : (l ++ l2).length = len + m := by rw [List.length_append, ol.1, hl2]
  have grows : cap < len + m → ∀ ad : Addr, a1 = some ad → (∀ j u, (cellsOf l)[j]? = some u → w.cell? (ad.add j) = some u) → ∃ g cap' w', (Builtin.append_ #[29, 29] ty #[.slice a1 len cap, .slice (some ⟨b, off, none⟩) m c]).run Try.prog w = .ok (.slice (some ⟨g, 0, none⟩) (len + m) cap') w' ∧ Own w' 0 (some ⟨g, 0, none⟩) (len + m) cap' (l ++ l2) ∧ w.grownBy w' none ∧ w.heap.size ≤ g := by
    intro hg ad had hcl
    subst had
    obtain ⟨v', w', hrun, r1, r2⟩ := run_append_arg_grows (P := Try.prog) w 29 ty 5 i0 (.int .u8 0) 1 1 Try.underlying29 hi hz0 hz1 hz2 rfl (by decide) ad len cap (cellsOf l) (by rw [cellsOf_length]; have := ol.1; omega) hcl ⟨b, off, none⟩ m c (cellsOf l2) (by rw [cellsOf_length]; omega) (octs_cells h2) hg (by unfold maxLen; omega) (by omega)
    rw [cellsOf_append] at r1
    rcases r1.2 with ⟨rfl, h0⟩ | ⟨g, cp, cur, rfl, hgs, hr⟩
    · omega
    · exact ⟨g, cp, w', hrun, ⟨⟨r1.1, .inr ⟨g, cp, cur, rfl, Nat.zero_le _, hr⟩⟩, oct, hll⟩, r2, hgs⟩
  rcases h with ⟨g, rfl, rfl, hown⟩ | ⟨rfl, hoc, rfl, hp⟩
  · by_cases hroom : len + m ≤ cap
    · obtain ⟨v', w', hr, o1, o2, _⟩ := run_append_own (P := Try.prog) w 0 29 ty 5 i0 (.int .u8 0) 1 1 Try.underlying29 hi hz0 hz1 hz2 rfl (by decide) _ len (cellsOf l) hown.1 ⟨b, off, none⟩ m c (cellsOf l2) (by rw [cellsOf_length]; omega) (octs_cells h2) (cellsOf_one l2) (by unfold maxLen; omega) (by omega) (Nat.zero_le _)
      rcases hown.1.2 with ⟨e, _⟩ | ⟨g', cap', cur, e, hbg, hg, hnc, hcm, hcs, htake⟩
      · cases e
      · obtain ⟨e1, e3⟩ : some (⟨g, 0, none⟩ : Addr) = some ⟨g', 0, none⟩ ∧ cap = cap' := by
          simp only [Value.slice.injEq] at e; exact ⟨e.1, e.2.2⟩
        cases e1
        subst e3
        have hr2 := run_append_room (P := Try.prog) w 29 ty 5 i0 Try.underlying29 hi g len cap cur hg ⟨b, off, none⟩ m c (cellsOf l2) (by rw [cellsOf_length, hz1]; omega) (octs_cells h2) (cellsOf_one l2) hroom (by rw [cellsOf_length, hz1]; omega)
        rw [hr2] at hr
        injection hr with e1 e2
        subst e1
        rw [cellsOf_append] at o1
        exact ⟨g, cap, w', by rw [hr2, e2], ⟨o1, oct, hll⟩, o2, .inl rfl⟩
    · obtain ⟨g', cap', w', r1, r2, r3, r4⟩ := grows (by omega) ⟨g, 0, none⟩ rfl (octs_cells ol)
      exact ⟨g', cap', w', r1, r2, ⟨r3.os, r3.tape, r3.output, r3.size, fun k hk _ => r3.block k hk (by simp)⟩, .inr r4⟩
  · rcases hoc.2.2.2 with h0 | ⟨b1, off1, rfl, hlt, hc⟩
    · omega
    · obtain ⟨g', cap', w', r1, r2, r3, r4⟩ := grows (by omega) ⟨b1, off1, none⟩ rfl (octs_cells ol)
      exact ⟨g', cap', w', r1, r2, r3, .inr r4⟩
theorem wpList_append_onto {w : World} {ops : Array Oper} {rest : List Oper} {o : Oper} {a : Act} {Q : Exit → Act → World → Prop} (hgd : o.guard = none) (s x : Operand)
    (ho : o.op = .call { callee := .builtin .append, args := #[s, x], argTypes := #[29, 29] })
    (r : Option Nat) (a1 : Option Addr) (len cap : Nat) (l : List Nat) (hs : a.eval s = .slice a1 len cap) (h1 : Onto w r a1 len cap l)
    (b off m c : Nat) (l2 : List Nat) (hx : a.eval x = .slice (some ⟨b, off, none⟩) m c) (h2 : Octs w (some ⟨b, off, none⟩) m l2) (hm : 0 < m) (hb : len + m ≤ 1099511627776)
    (tot : Nat) (ht : len + m = tot) (l3 : List Nat) (hl3 : l ++ l2 = l3)
    (h : ∀ g cap' w', Own w' 0 (some ⟨g, 0, none⟩) tot cap' l3 → Moved w w' r g → wpList Try.prog ops Q rest (a.put o.dst (.slice (some ⟨g, 0, none⟩) tot cap')) w') : wpList Try.prog ops Q (o :: rest) a w := by
  subst ht hl3
  refine wpList_plain hgd fun K hK' => ?_
  obtain ⟨g, cap', w', hrun, r1, r2⟩ := run_append_onto o.type h1 b off m c l2 h2 hm hb
  unfold Oper.wp
  simp [execOp, ho, resolve, invoke, builtin, hs, hx, hrun, Result.andThen]
  exact hK' _ _ (h g cap' w' r1 r2)
end Go.Proofs.Ytjelfenkbngfiaa
