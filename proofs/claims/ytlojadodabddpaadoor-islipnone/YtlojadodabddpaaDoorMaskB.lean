/-
  Slices that lead to plain numbers; the document's Bits and Count; the laws' same and alike. Conditions: none.
-/
import Derived.Test.YtlojadodabddpaaDoorMaskA
import Derived.OwnWalk
import Derived.Maps.AppendAt
import Derived.Laws.AppendOwn
import Derived.RangeFuncBox
namespace Go.Proofs.YtlojadodabddpaaDoor
open Go.ChangeShapes Go.WideShapes Go.ChangeAt Go.RowKit
set_option linter.unusedVariables false

/-- numbers as cells -/
def cellsK (κ : IntKind) (l : List Nat) : List Value := l.map fun z => Value.int κ (z : Nat)
theorem cellsK_length (κ : IntKind) (l : List Nat) : (cellsK κ l).length = l.length := List.length_map _
theorem cellsK_snoc (κ : IntKind) (l : List Nat) (z : Nat) : cellsK κ l ++ [Value.int κ (z : Nat)] = cellsK κ (l ++ [z]) := by simp [cellsK]
/-- the slice leads to the numbers l -/
def Nums (κ : IntKind) (w : World) (a : Option Addr) (len : Nat) (l : List Nat) : Prop :=
  l.length = len ∧ len ≤ maxLen ∧ (len = 0 ∨ ∃ b off, a = some ⟨b, off, none⟩ ∧ b < w.heap.size ∧ ∀ i, i < len → w.cell? ⟨b, off + i, none⟩ = some (.int κ (l.getD i 0 : Nat)))
theorem Nums.below {κ : IntKind} {w w' : World} {a : Option Addr} {len : Nat} {l : List Nat} (h : Nums κ w a len l) (hb : Below w.heap.size w w') : Nums κ w' a len l := by
  obtain ⟨h1, h2, h4⟩ := h
  refine ⟨h1, h2, ?_⟩
  rcases h4 with h4 | ⟨b, off, ha, hlt, hc⟩
  · exact .inl h4
  · exact .inr ⟨b, off, ha, Nat.lt_of_lt_of_le hlt hb.size, fun i hi => (hb.cell (p := ⟨b, off + i, none⟩) hlt).trans (hc i hi)⟩
theorem Nums.at {κ : IntKind} {w : World} {a : Option Addr} {len : Nat} {l : List Nat} (h : Nums κ w a len l) {k : Nat} (hk : k < len) : ∃ b off, a = some ⟨b, off, none⟩ ∧ w.cell? ⟨b, off + k, none⟩ = some (.int κ (l.getD k 0 : Nat)) := by
  rcases h.2.2 with h0 | ⟨b, off, ha, _, hc⟩
  · omega
  · exact ⟨b, off, ha, hc k hk⟩
theorem Nums.nil {κ : IntKind} {w : World} : Nums κ w none 0 [] := ⟨rfl, Nat.zero_le _, .inl rfl⟩
theorem nums_of_owns {κ : IntKind} {w : World} {base : Nat} {e : TypeId} {v : Value} {l : List Nat} (h : w.ownsRow base e 1 v l.length (cellsK κ l)) : ∃ a cap, v = .slice a l.length cap ∧ Nums κ w a l.length l := by
  rcases h.2 with ⟨hv, h0⟩ | ⟨g, cap, cur, hv, hb, hg, hnc, hcm, hcs, htake⟩
  · have hl : l = [] := List.eq_nil_of_length_eq_zero h0
    subst hl
    exact ⟨none, 0, hv, Nums.nil⟩
  · subst hv
    refine ⟨_, cap, rfl, rfl, Nat.le_trans hnc hcm, .inr ⟨g, 0, rfl, (Array.getElem?_eq_some_iff.1 hg).1, fun i hi => ?_⟩⟩
    have := h.cellAt i (by omega)
    rw [Nat.zero_add, this]
    simp [cellsK, List.getD, hi]
theorem infoI : (Tryd.prog.info? 3).map (fun i => (i.zero, i.size, i.bytes)) = some (some (.int .i64 0), 1, 8) := by kernel_rfl
theorem infoM : (Tryd.prog.info? 29).map (fun i => (i.zero, i.size, i.bytes)) = some (some (.int .u16 0), 1, 2) := by kernel_rfl
/-- one number that is laid for an append -/
theorem one_cell (κ : IntKind) (t : TypeId) (w : World) (z : Int) : ∀ (j : Nat) (u : Value), [Value.int κ z][j]? = some u → (w.alloc (.cells #[.int κ z] t)).cell? ((⟨w.heap.size, 0, none⟩ : Addr).add j) = some u := by
  intro j u hu
  have hj : j = 0 := by
    have := (List.getElem?_eq_some_iff.1 hu).1
    simp at this
    exact this
  subst hj
  simp at hu
  subst hu
  simp [Addr.add]
theorem one_one (κ : IntKind) (z : Int) : ∀ u ∈ [Value.int κ z], u.oneCell' = true := by
  intro u hu
  rw [List.mem_singleton] at hu
  subst hu
  rfl
/-- an append to a row of the call's own: what lay below stays -/
theorem below_grown {n : Nat} {w w0 w' : World} {e : TypeId} {v : Value} {k : Nat} {xs : List Value} (hb : Below n w w0) (hr : w0.ownsRow n e 1 v k xs) (tmp : Obj) (hn : n ≤ w0.heap.size) (hg : (w0.alloc tmp).grownBy w' v.ownBlock) : Below n w w' := by
  refine (hb.alloc hn tmp).grown hg (by simp; omega) fun j ej => ?_
  rcases hr.2 with ⟨rfl, _⟩ | ⟨g, cap, cur, rfl, hb, _, _⟩
  · simp [Value.ownBlock] at ej
  · obtain rfl : g = j := by simpa [Value.ownBlock] using ej
    exact hb

/-- the bits below k -/
def upto (m k : Nat) : List Nat := (List.range k).filter fun i => m.testBit i
theorem upto_all (m : Nat) : upto m 16 = Mask.bitsOf m := rfl
theorem upto_hit {m k : Nat} (h : m.testBit k = true) : upto m (k + 1) = upto m k ++ [k] := by simp [upto, List.range_succ, h]
theorem upto_miss {m k : Nat} (h : m.testBit k = false) : upto m (k + 1) = upto m k := by simp [upto, List.range_succ, h]
theorem upto_len (m k : Nat) : (upto m k).length ≤ k := by
  have := List.length_filter_le (fun i => m.testBit i) (List.range k)
  rw [List.length_range] at this
  exact this

end Go.Proofs.YtlojadodabddpaaDoor
