/-
  Slices of bytes that a call of its own has made: what append leaves, what a store leaves, what they lead to. Conditions: none but sizes below 2^40.
-/
import Derived.Test.YtlhkpmgjjhhniaaCrcKnown
import Derived.Laws.AppendOwnNone
namespace Go.Proofs.Ytlhkpmgjjhhniaa
open Go.ChangeShapes Go.WideShapes Go.ChangeAt Go.RowKit
set_option linter.unusedVariables false

theorem info8 : (Try.prog.info? 5).map (fun i => (i.zero, i.size, i.bytes)) = some (some (.int .u8 0), 1, 1) := by kernel_rfl

def cellsOf (l : List Nat) : List Value := l.map fun n => Value.int .u8 (n : Nat)
theorem cellsOf_length (l : List Nat) : (cellsOf l).length = l.length := List.length_map _
theorem cellsOf_append (l m : List Nat) : cellsOf l ++ cellsOf m = cellsOf (l ++ m) := (List.map_append ..).symm
theorem cellsOf_one (l : List Nat) : ∀ u ∈ cellsOf l, u.oneCell' = true := by
  intro u hu
  obtain ⟨n, _, rfl⟩ := List.mem_map.1 hu
  rfl
theorem cellsOf_at (l : List Nat) (j : Nat) (h : j < l.length) : (cellsOf l)[j]? = some (Value.int .u8 (l.getD j 0 : Nat)) := by
  unfold cellsOf
  rw [List.getElem?_map, List.getD_eq_getElem?_getD, List.getElem?_eq_getElem h]
  rfl

/-- the slice is the call's own (blocks from base on) and leads to the bytes l -/
def Own (w : World) (base : Nat) (a : Option Addr) (len cap : Nat) (l : List Nat) : Prop :=
  w.ownsRow base 5 1 (.slice a len cap) len (cellsOf l) ∧ Crc.Oct l ∧ l.length = len
theorem Own.empty (w : World) (base : Nat) : Own w base none 0 0 [] := ⟨World.ownsRow_nil _ _ _ _, (fun x hx => absurd hx List.not_mem_nil), rfl⟩
theorem Own.alloc {w : World} {base : Nat} {a : Option Addr} {len cap : Nat} {l : List Nat} (h : Own w base a len cap l) (o : Obj) : Own (w.alloc o) base a len cap l := ⟨h.1.alloc o, h.2⟩
/-- a call that writes nothing that was there -/
theorem Own.below {w w' : World} {base : Nat} {a : Option Addr} {len cap : Nat} {l : List Nat} (h : Own w base a len cap l) (hb : Below w.heap.size w w') : Own w' base a len cap l :=
  ⟨h.1.kept (row := Option.none) ⟨hb.os, hb.tape, hb.output, hb.size, fun k hk _ => hb.block k hk⟩ (by
    cases hv : (Value.slice a len cap).ownBlock with
    | none => exact .inl rfl
    | some k => exact .inr (by simp)), h.2⟩
theorem Own.shape {w : World} {base : Nat} {a : Option Addr} {len cap : Nat} {l : List Nat} (h : Own w base a len cap l) :
    (a = none ∧ len = 0 ∧ cap = 0) ∨ ∃ g, a = some ⟨g, 0, none⟩ ∧ base ≤ g ∧ g < w.heap.size ∧ len ≤ maxLen := by
  rcases h.1.2 with ⟨e, _⟩ | ⟨g, c, cur, e, hb, hg, hn, hm, _⟩
  · simp only [Value.slice.injEq] at e; exact .inl e
  · simp only [Value.slice.injEq] at e
    refine .inr ⟨g, e.1, hb, ?_, by omega⟩
    rcases Nat.lt_or_ge g w.heap.size with h' | h'
    · exact h'
    · simp [Array.getElem?_eq_none h'] at hg
theorem Own.octs {w : World} {base : Nat} {a : Option Addr} {len cap : Nat} {l : List Nat} (h : Own w base a len cap l) : Octs w a len l := by
  rcases h.shape with ⟨rfl, rfl, rfl⟩ | ⟨g, rfl, hb, hg, hm⟩
  · exact ⟨h.2.2, by unfold maxLen; omega, h.2.1, .inl rfl⟩
  · refine ⟨h.2.2, hm, h.2.1, .inr ⟨g, 0, rfl, hg, fun i hi => ?_⟩⟩
    have := h.1.cellAt i (by omega)
    rw [Nat.zero_add, this, cellsOf_at _ _ (by rw [h.2.2]; exact hi)]
theorem Own.frozen {w : World} {base g len cap : Nat} {l : List Nat} (h : Own w base (some ⟨g, 0, none⟩) len cap l) (j : Nat) : w.frozen? ⟨g, j, none⟩ = false := h.1.frozenAt j
theorem Own.stored {w : World} {base g len cap : Nat} {l : List Nat} (h : Own w base (some ⟨g, 0, none⟩) len cap l) (j c : Nat) (hc : c < 256) :
    Own (w.setCell ⟨g, j, none⟩ (.int .u8 (c : Nat))) base (some ⟨g, 0, none⟩) len cap (l.set j c) := by
  refine ⟨?_, ?_, by simpa using h.2.2⟩
  · have := (h.1.stored j (.int .u8 (c : Nat))).1
    unfold cellsOf at this ⊢
    rwa [← List.map_set] at this
  · intro x hx
    rcases List.mem_or_eq_of_mem_set hx with hx | rfl
    · exact h.2.1 x hx
    · exact hc

/-- append of bytes to a slice of the call's own -/
theorem wpList_append_octs {w : World} {ops : Array Oper} {rest : List Oper} {o : Oper} {a : Act} {Q : Exit → Act → World → Prop} (hgd : o.guard = none) (s x : Operand)
    (ho : o.op = .call { callee := .builtin .append, args := #[s, x], argTypes := #[22, 22] })
    (base : Nat) (a1 : Option Addr) (len cap : Nat) (l : List Nat) (hs : a.eval s = .slice a1 len cap) (hown : Own w base a1 len cap l)
    (a2 : Option Addr) (m c : Nat) (l2 : List Nat) (hx : a.eval x = .slice a2 m c) (h2 : Octs w a2 m l2) (hn : a2 = none → m = 0 ∧ c = 0) (hb : len + m ≤ 1099511627776) (hbase : base ≤ w.heap.size)
    (h : ∀ a' cap' w', Own w' base a' (len + m) cap' (l ++ l2) → Below base w w' → wpList Try.prog ops Q rest (a.put o.dst (.slice a' (len + m) cap')) w') : wpList Try.prog ops Q (o :: rest) a w := by
  obtain ⟨i0, hi, hz0, hz1, hz2⟩ := info_parts info8
  have oct : Crc.Oct (l ++ l2) := fun y hy => by
    rcases List.mem_append.1 hy with hy | hy
    · exact hown.2.1 y hy
    · exact h2.2.2.1 y hy
  have hl2 := h2.1
  have hll : (l ++ l2).length = len + m := by rw [List.length_append, hown.2.2, hl2]
  cases a2 with
  | none =>
    obtain ⟨rfl, rfl⟩ := hn rfl
    obtain rfl : l2 = [] := List.length_eq_zero_iff.1 hl2
    refine wpList_append_own_none hgd s x 22 ho base 5 i0 1 Try.underlying22 hi _ len (cellsOf l) hs hown.1 hx ?_
    have := h a1 cap w (by rw [List.append_nil]; exact hown) (Below.refl _ _)
    exact this
  | some ad =>
    refine wpList_append_own w hgd s x 22 ho base 5 i0 (.int .u8 0) 1 1 Try.underlying22 hi hz0 hz1 hz2 rfl (by decide) _ len (cellsOf l) hs hown.1 ad m c (cellsOf l2) hx (by rw [cellsOf_length]; omega) ?_ (cellsOf_one l2) (by unfold maxLen; omega) (by omega) hbase ?_
    · intro j u hj
      have hjl : j < l2.length := by
        rcases Nat.lt_or_ge j l2.length with h' | h'
        · exact h'
        · rw [List.getElem?_eq_none (by rw [cellsOf_length]; exact h')] at hj; cases hj
      rw [cellsOf_at _ _ hjl] at hj
      rcases h2.2.2.2 with h0 | ⟨b, off, e, hlt, hc⟩
      · omega
      · cases e
        have ea : (⟨b, off, none⟩ : Addr).add j = ⟨b, off + j, none⟩ := by
          unfold Addr.add; split
          · rename_i h; rw [h]; rfl
          · rfl
        rw [ea, hc j (by omega)]
        exact hj
    · intro v' w' hown' hg hnil
      rw [cellsOf_append] at hown'
      have hB : Below base w w' := (Below.refl base w).grown hg hbase (fun k hk => (hown.1.lt k hk).1)
      rcases hown'.2 with ⟨rfl, h0⟩ | ⟨g, cp, cur, rfl, _⟩
      · have := h none 0 w' ⟨by rw [h0] at hown' ⊢; exact hown', oct, hll⟩ hB
        rw [h0] at this
        exact this
      · exact h (some ⟨g, 0, none⟩) cp w' ⟨hown', oct, hll⟩ hB
/-- the same, length and bytes under names of their own -/
theorem wpList_append_bytes {w : World} {ops : Array Oper} {rest : List Oper} {o : Oper} {a : Act} {Q : Exit → Act → World → Prop} (hgd : o.guard = none) (s x : Operand)
    (ho : o.op = .call { callee := .builtin .append, args := #[s, x], argTypes := #[22, 22] })
    (base : Nat) (a1 : Option Addr) (len cap : Nat) (l : List Nat) (hs : a.eval s = .slice a1 len cap) (hown : Own w base a1 len cap l)
    (a2 : Option Addr) (m c : Nat) (l2 : List Nat) (hx : a.eval x = .slice a2 m c) (h2 : Octs w a2 m l2) (hn : a2 = none → m = 0 ∧ c = 0) (hb : len + m ≤ 1099511627776) (hbase : base ≤ w.heap.size)
    (tot : Nat) (ht : len + m = tot) (l3 : List Nat) (hl3 : l ++ l2 = l3)
    (h : ∀ a' cap' w', Own w' base a' tot cap' l3 → Below base w w' → wpList Try.prog ops Q rest (a.put o.dst (.slice a' tot cap')) w') : wpList Try.prog ops Q (o :: rest) a w := by
  subst ht hl3
  exact wpList_append_octs hgd s x ho base a1 len cap l hs hown a2 m c l2 hx h2 hn hb hbase h
/-- the same where there is a byte: the slice is not nil -/
theorem wpList_append_some {w : World} {ops : Array Oper} {rest : List Oper} {o : Oper} {a : Act} {Q : Exit → Act → World → Prop} (hgd : o.guard = none) (s x : Operand)
    (ho : o.op = .call { callee := .builtin .append, args := #[s, x], argTypes := #[22, 22] })
    (base : Nat) (a1 : Option Addr) (len cap : Nat) (l : List Nat) (hs : a.eval s = .slice a1 len cap) (hown : Own w base a1 len cap l)
    (a2 : Option Addr) (m c : Nat) (l2 : List Nat) (hx : a.eval x = .slice a2 m c) (h2 : Octs w a2 m l2) (hn : a2 = none → m = 0 ∧ c = 0) (hb : len + m ≤ 1099511627776) (hbase : base ≤ w.heap.size)
    (tot : Nat) (ht : len + m = tot) (l3 : List Nat) (hl3 : l ++ l2 = l3) (hpos : 0 < tot)
    (h : ∀ g cap' w', Own w' base (some ⟨g, 0, none⟩) tot cap' l3 → base ≤ g → Below base w w' → wpList Try.prog ops Q rest (a.put o.dst (.slice (some ⟨g, 0, none⟩) tot cap')) w') : wpList Try.prog ops Q (o :: rest) a w := by
  refine wpList_append_bytes hgd s x ho base a1 len cap l hs hown a2 m c l2 hx h2 hn hb hbase tot ht l3 hl3 ?_
  intro a' cap' w' h1 h2
  rcases h1.shape with ⟨_, h0, _⟩ | ⟨g, rfl, hg, _, _⟩
  · omega
  · exact h g cap' w' h1 hg h2
theorem Own.cell {w : World} {base g len cap : Nat} {l : List Nat} (h : Own w base (some ⟨g, 0, none⟩) len cap l) (j : Nat) (hj : j < len) : w.cell? ⟨g, j, none⟩ = some (.int .u8 (l.getD j 0 : Nat)) := by
  rw [h.1.cellAt j (by omega), cellsOf_at _ _ (by rw [h.2.2]; exact hj)]
theorem Own.bent {w : World} {base g len cap : Nat} {l : List Nat} (h : Own w base (some ⟨g, 0, none⟩) len cap l) (j c x : Nat) (hc : c < 256) (hx : x < 256) :
    Own (w.setCell ⟨g, j, none⟩ (.int .u8 (bits .xor .u8 (c : Int) (x : Int)))) base (some ⟨g, 0, none⟩) len cap (l.set j (c ^^^ x)) := by
  rw [u8_xor_nat c x hc hx]; exact h.stored j _ (Crc.xor_lt8 hc hx)
theorem ne_of {a b : Nat} (h : a ≠ b) : ((a : Int) != (b : Int)) = true := by
  have : ((a : Int) == (b : Int)) = false := by simp; omega
  simp only [bne, this]; rfl
/-- two bytes that are laid for an append -/
theorem two_at (w : World) (c d : Nat) (hc : c < 256) (hd : d < 256) : Octs (w.alloc (.cells #[.int .u8 (c : Nat), .int .u8 (d : Nat)] 5)) (some ⟨w.heap.size, 0, none⟩) 2 [c, d] := by
  refine ⟨rfl, by unfold maxLen; omega, ?_, .inr ⟨w.heap.size, 0, rfl, by simp, ?_⟩⟩
  · intro x hx
    simp only [List.mem_cons, List.not_mem_nil, or_false] at hx
    omega
  · intro i hi
    have : i = 0 ∨ i = 1 := by omega
    rcases this with rfl | rfl <;> simp
theorem two_is (w : World) (x y : Int) (c d : Nat) (hx : x = c) (hy : y = d) (hc : c < 256) (hd : d < 256) : Octs (w.alloc (.cells #[.int .u8 x, .int .u8 y] 5)) (some ⟨w.heap.size, 0, none⟩) 2 [c, d] := by
  subst hx hy; exact two_at w c d hc hd
theorem nil_of {w : World} {a : Option Addr} {len cap : Nat} {zs : List Int}
    (h : (a = none ∧ len = 0 ∧ cap = 0 ∧ zs = []) ∨ ∃ x, a = some x ∧ len ≤ cap ∧ cap ≤ maxLen ∧ zs.length = cap ∧ (∀ i, i < zs.length → w.cell? (x.add i) = some (.int .u8 (zs.getD i 0))) ∧ ∀ n ∈ zs, (Lit.int .u8 n).wf = true) :
    a = none → len = 0 ∧ cap = 0 := by
  rcases h with ⟨rfl, rfl, rfl, rfl⟩ | ⟨x, rfl, _⟩
  · exact fun _ => ⟨rfl, rfl⟩
  · intro h; cases h
end Go.Proofs.Ytlhkpmgjjhhniaa
