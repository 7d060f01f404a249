/-
  Parts for three rows of bytes: append inside a statement whose order Go leaves open, the first bytes of a slice, the xored row. Conditions: none but sizes below 2^40.
-/
import Derived.Test.YtlhkpmgjjhhniaaCrcOwn
import Derived.Deep.RegionLaw
import Derived.Deep.RegionWith
namespace Go.Proofs.Ytlhkpmgjjhhniaa
open Go.ChangeShapes Go.WideShapes Go.ChangeAt Go.RowKit
set_option linter.unusedVariables false

theorem step_append_bytes {w : World} {ops : Array Oper} {o : Oper} {a : Act} {K : Act → World → Prop} {Q : Exit → Act → World → Prop} {E : Prop} (hgd : o.guard = none) (s x : Operand)
    (ho : o.op = .call { callee := .builtin .append, args := #[s, x], argTypes := #[22, 22] })
    (base : Nat) (a1 : Option Addr) (len cap : Nat) (l : List Nat) (hs : a.eval s = .slice a1 len cap) (hown : Own w base a1 len cap l)
    (ad : Addr) (m c : Nat) (l2 : List Nat) (hx : a.eval x = .slice (some ad) m c) (h2 : Octs w (some ad) m l2) (hb : len + m ≤ 1099511627776) (hbase : base ≤ w.heap.size)
    (tot : Nat) (ht : len + m = tot) (l3 : List Nat) (hl3 : l ++ l2 = l3)
    (h : ∀ a' cap' w', Own w' base a' tot cap' l3 → Below base w w' → K (a.put o.dst (.slice a' tot cap')) w') : if Region.wanted o (yielded ops a.tmps) = true then Oper.wp Try.prog o a w K Q else E := by
  subst ht hl3
  have hw : Region.wanted o (yielded ops a.tmps) = true := by simp [Region.wanted, hgd]
  rw [if_pos hw]
  obtain ⟨i0, hi, hz0, hz1, hz2⟩ := info_parts info8
  have oct : Crc.Oct (l ++ l2) := fun y hy => by
    rcases List.mem_append.1 hy with hy | hy
    · exact hown.2.1 y hy
    · exact h2.2.2.1 y hy
  have hl2 := h2.1
  have hll : (l ++ l2).length = len + m := by rw [List.length_append, hown.2.2, hl2]
  refine wp_append_own w s x 22 ho base 5 i0 (.int .u8 0) 1 1 Try.underlying22 hi hz0 hz1 hz2 rfl (by decide) _ len (cellsOf l) hs hown.1 ad m c (cellsOf l2) hx (by rw [cellsOf_length]; omega) ?_ (cellsOf_one l2) (by unfold maxLen; omega) (by omega) hbase ?_
  · intro j u hj
    have hjl : j < l2.length := by
      rcases Nat.lt_or_ge j l2.length with h' | h'
      · exact h'
      · rw [List.getElem?_eq_none (by rw [cellsOf_length]; exact h')] at hj; cases hj
    rw [cellsOf_at _ _ hjl] at hj
    rcases h2.2.2.2 with h0 | ⟨b, off, e, hlt, hc⟩
    · omega
    · cases e
      have ea : (⟨b, off, none⟩ : Addr).add j = ⟨b, off + j, none⟩ := by
        unfold Addr.add; split
        · rename_i h; rw [h]; rfl
        · rfl
      rw [ea, hc j (by omega)]
      exact hj
  · intro v' w' hown' hg hnil
    rw [cellsOf_append] at hown'
    have hB : Below base w w' := (Below.refl base w).grown hg hbase (fun k hk => (hown.1.lt k hk).1)
    rcases hown'.2 with ⟨rfl, h0⟩ | ⟨g, cp, cur, rfl, _⟩
    · have := h none 0 w' ⟨by rw [h0] at hown' ⊢; exact hown', oct, hll⟩ hB
      rw [h0] at this
      exact this
    · exact h (some ⟨g, 0, none⟩) cp w' ⟨hown', oct, hll⟩ hB

theorem Octs.take {w : World} {a : Option Addr} {len n : Nat} {l : List Nat} (h : Octs w a len l) (hn : n ≤ len) : Octs w a n (l.take n) := by
  obtain ⟨h1, h2, h3, h4⟩ := h
  refine ⟨by simp; omega, by omega, Oct_take h3 n, ?_⟩
  rcases h4 with h4 | ⟨b, off, ha, hlt, hc⟩
  · exact .inl (by omega)
  · refine .inr ⟨b, off, ha, hlt, fun i hi => ?_⟩
    rw [hc i (by omega)]
    congr 2
    simp [List.getD_eq_getElem?_getD, hi]
theorem cap_of {w : World} {a : Option Addr} {len cap : Nat} {zs : List Int}
    (h : (a = none ∧ len = 0 ∧ cap = 0 ∧ zs = []) ∨ ∃ x, a = some x ∧ len ≤ cap ∧ cap ≤ maxLen ∧ zs.length = cap ∧ (∀ i, i < zs.length → w.cell? (x.add i) = some (.int .u8 (zs.getD i 0))) ∧ ∀ n ∈ zs, (Lit.int .u8 n).wf = true) :
    len ≤ cap ∧ cap ≤ 9223372036854775807 := by
  rcases h with ⟨rfl, rfl, rfl, rfl⟩ | ⟨x, rfl, h1, h2, _⟩
  · exact ⟨Nat.le_refl _, by omega⟩
  · unfold maxLen at h2; omega
theorem Octs.at {w : World} {a : Option Addr} {len : Nat} {l : List Nat} (h : Octs w a len l) (hp : 0 < len) : ∃ b off, a = some ⟨b, off, none⟩ ∧ ∀ i, i < len → w.cell? ⟨b, off + i, none⟩ = some (.int .u8 (l.getD i 0 : Nat)) := by
  rcases h.2.2.2 with h0 | ⟨b, off, ha, _, hc⟩
  · omega
  · exact ⟨b, off, ha, hc⟩

/-- the first k bytes of the xored row -/
def xors (la lb lc : List Nat) (k : Nat) : List Nat := (List.range k).map fun i => la.getD i 0 ^^^ lb.getD i 0 ^^^ lc.getD i 0
theorem xors_succ (la lb lc : List Nat) (k : Nat) : xors la lb lc k ++ [la.getD k 0 ^^^ lb.getD k 0 ^^^ lc.getD k 0] = xors la lb lc (k + 1) := by
  unfold xors
  rw [List.range_succ, List.map_append]
  rfl
theorem one_is (w : World) (x : Int) (c : Nat) (hx : x = c) (hc : c < 256) : Octs (w.alloc (.cells #[.int .u8 x] 5)) (some ⟨w.heap.size, 0, none⟩) 1 [c] := by
  subst hx
  refine ⟨rfl, by unfold maxLen; omega, ?_, .inr ⟨w.heap.size, 0, rfl, by simp, ?_⟩⟩
  · intro x hx
    simp only [List.mem_cons, List.not_mem_nil, or_false] at hx
    omega
  · intro i hi
    obtain rfl : i = 0 := by omega
    simp
theorem xor3 {a b c : Nat} (ha : a < 256) (hb : b < 256) (hc : c < 256) : bits .xor .u8 (bits .xor .u8 (a : Int) (b : Int)) (c : Int) = ((a ^^^ b ^^^ c : Nat) : Int) := by
  rw [u8_xor_nat a b ha hb]; exact u8_xor_nat _ _ (Crc.xor_lt8 ha hb) hc
theorem xor3w {a b c : Nat} (ha : a < 65536) (hb : b < 65536) (hc : c < 65536) : bits .xor .u16 (bits .xor .u16 (a : Int) (b : Int)) (c : Int) = ((a ^^^ b ^^^ c : Nat) : Int) := by
  rw [u16_xor_nat a b ha hb]; exact u16_xor_nat _ _ (Crc.xor_lt ha hb) hc

/-- four slices, and what has not been written -/
def Four (w0 u : World) (a b c d : Option Addr) (n : Nat) (la lb lc ld : List Nat) : Prop := Octs u a n la ∧ Octs u b n lb ∧ Octs u c n lc ∧ Octs u d n ld ∧ Below w0.heap.size w0 u
theorem Four.below {w0 u u' : World} {a b c d : Option Addr} {n : Nat} {la lb lc ld : List Nat} (h : Four w0 u a b c d n la lb lc ld) (k : Below u.heap.size u u') : Four w0 u' a b c d n la lb lc ld :=
  ⟨h.1.below k, h.2.1.below k, h.2.2.1.below k, h.2.2.2.1.below k, later h.2.2.2.2 k⟩
theorem four_a {w0 u : World} {a b c d : Option Addr} {n : Nat} {la lb lc ld : List Nat} (cap : Nat) (h : Four w0 u a b c d n la lb lc ld) :
    Calls Try.prog 12 #[.slice a n cap] u fun e w' => e = .returned (.int .u16 (Crc.crc la : Nat)) ∧ Four w0 w' a b c d n la lb lc ld :=
  (sum_any a n cap la u h.1).mono fun e w' ⟨he, hb⟩ => ⟨he, h.below hb⟩
theorem four_b {w0 u : World} {a b c d : Option Addr} {n : Nat} {la lb lc ld : List Nat} (cap : Nat) (h : Four w0 u a b c d n la lb lc ld) :
    Calls Try.prog 12 #[.slice b n cap] u fun e w' => e = .returned (.int .u16 (Crc.crc lb : Nat)) ∧ Four w0 w' a b c d n la lb lc ld :=
  (sum_any b n cap lb u h.2.1).mono fun e w' ⟨he, hb⟩ => ⟨he, h.below hb⟩
theorem four_c {w0 u : World} {a b c d : Option Addr} {n : Nat} {la lb lc ld : List Nat} (cap : Nat) (h : Four w0 u a b c d n la lb lc ld) :
    Calls Try.prog 12 #[.slice c n cap] u fun e w' => e = .returned (.int .u16 (Crc.crc lc : Nat)) ∧ Four w0 w' a b c d n la lb lc ld :=
  (sum_any c n cap lc u h.2.2.1).mono fun e w' ⟨he, hb⟩ => ⟨he, h.below hb⟩
theorem four_d {w0 u : World} {a b c d : Option Addr} {n : Nat} {la lb lc ld : List Nat} (cap : Nat) (h : Four w0 u a b c d n la lb lc ld) :
    Calls Try.prog 12 #[.slice d n cap] u fun e w' => e = .returned (.int .u16 (Crc.crc ld : Nat)) ∧ Four w0 w' a b c d n la lb lc ld :=
  (sum_any d n cap ld u h.2.2.2.1).mono fun e w' ⟨he, hb⟩ => ⟨he, h.below hb⟩
end Go.Proofs.Ytlhkpmgjjhhniaa
