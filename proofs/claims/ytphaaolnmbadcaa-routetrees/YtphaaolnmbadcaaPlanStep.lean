/-
  Append of pairs inside a statement whose order Go leaves open. Conditions: none.
-/
import Derived.Test.YtphaaolnmbadcaaPlanRow
import Derived.Deep.AppendLies
namespace Go.Proofs.Ytphaaolnmbadcaa
open Go.ChangeShapes Go.WideShapes Go.ChangeAt Go.RowKit
set_option linter.unusedVariables false

/-- append of pairs, inside a statement whose order Go leaves open -/
theorem step_append_p {w : World} {ops : Array Oper} {o : Oper} {a : Act} {K : Act → World → Prop} {Q : Exit → Act → World → Prop} {E : Prop} (hgd : o.guard = none) (s x : Operand) (t e : TypeId)
    (ho : o.op = .call { callee := .builtin .append, args := #[s, x], argTypes := #[t, t] }) (ht : Try.prog.underlying t = some (.slice e)) (hinfo : (Try.prog.info? e).map (fun i => (i.zero, i.size, i.bytes)) = some (some (.agg #[.int .i64 0, .int .i64 0]), 2, 16)) (base : Nat)
    (v : Value) (l : List (Int × Int)) (hs : a.eval s = v) (hown : w.ownsRow base e 2 v l.length (pcells l)) (hbase : base ≤ w.heap.size)
    (ad : Addr) (m c : Nat) (new : List (Int × Int)) (hx : a.eval x = .slice (some ad) m c) (h2 : Pr w (some ad) m new) (hm : l.length + m ≤ 8796093022208) (l3 : List (Int × Int)) (hl3 : l ++ new = l3)
    (h : ∀ v' w', w'.ownsRow base e 2 v' l3.length (pcells l3) → Below base w w' → K (a.put o.dst v') w') : if Region.wanted o (yielded ops a.tmps) = true then Oper.wp Try.prog o a w K Q else E := by
  have hw : Region.wanted o (yielded ops a.tmps) = true := by simp [Region.wanted, hgd]
  rw [if_pos hw]
  obtain ⟨i0, hi, hz0, hz1, hz2⟩ := info_parts hinfo
  have hl2 := h2.1
  refine wp_append_own w s x t ho base e i0 (.agg #[.int .i64 0, .int .i64 0]) 2 16 ht hi hz0 hz1 hz2 rfl (by decide) v l.length (pcells l) hs hown ad m c (pcells new) hx (by rw [pcells_len]; omega) ?_ (pcells_one new) (by unfold maxLen; omega) (by omega) hbase ?_
  · intro j u hu
    have hj : j < new.length * 2 := by
      have := (List.getElem?_eq_some_iff.1 hu).1
      rwa [pcells_len] at this
    have hp := pcells_at new (j / 2) (by omega)
    rcases h2.2.2 with h0 | ⟨b, off, e, hlt, hc⟩
    · omega
    · cases e
      have hcj := hc (j / 2) (by omega)
      rw [add_lit, ← hu]
      rcases Nat.mod_two_eq_zero_or_one j with e0 | e0
      · have ej : j = j / 2 * 2 := by omega
        have h3 := hcj.1.trans hp.1.symm
        rw [← ej] at h3
        exact h3
      · have ej : j = j / 2 * 2 + 1 := by omega
        have h3 := hcj.2.trans hp.2.symm
        rw [Nat.add_assoc, ← ej] at h3
        exact h3
  · intro v' w' hown' hg hnil
    rw [pcells_append, show l.length + m = (l ++ new).length by rw [List.length_append]; omega, hl3] at hown'
    exact h v' w' hown' ((Below.refl base w).grown hg hbase (fun k hk => (hown.lt k hk).1))
end Go.Proofs.Ytphaaolnmbadcaa
