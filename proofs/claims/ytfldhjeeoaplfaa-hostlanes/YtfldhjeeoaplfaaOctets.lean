/-
  Slices of bytes, in a seat of whatever packages: those that came in, those that a call of its own has made; what append leaves, what a store leaves, what they lead to, what string(b) is. Conditions: none but sizes below 2^40.
-/
import Derived.Test.YtfldhjeeoaplfaaRows
import Derived.Test.YtfldhjeeoaplfaaCrcMath
import Derived.WalkKit
import Derived.ProofKit
import Derived.OpenShut
import Derived.Lib.SlBytesConst
import Derived.Laws.IdiomStrings
import Derived.WalkSpells
import Derived.WalkLawsBesides
import Derived.Laws.AppendOwnNone
import Derived.ArgAppend
import Derived.Deep.RegionLaw
import Derived.Deep.RegionWith
namespace Go.Proofs.Ytfldhjeeoaplfaa
open Go.ChangeShapes Go.WideShapes Go.ChangeAt Go.RowKit
set_option linter.unusedVariables false

theorem ret_bool {a b : Bool} (h : a = b) : Ending.returned (.bool a) = .returned (.bool b) := by rw [h]
theorem ret_int {k : IntKind} {a b : Int} (h : a = b) : Ending.returned (.int k a) = .returned (.int k b) := by rw [h]

/-- the slice leads to the bytes l (what stands behind its length is not spoken of) -/
def Octs (w : World) (a : Option Addr) (len : Nat) (l : List Nat) : Prop :=
  l.length = len ∧ len ≤ maxLen ∧ Crc.Oct l ∧ (len = 0 ∨ ∃ b off, a = some ⟨b, off, none⟩ ∧ b < w.heap.size ∧ ∀ i, i < len → w.cell? ⟨b, off + i, none⟩ = some (.int .u8 (l.getD i 0 : Nat)))
theorem Octs.below {w w' : World} {a : Option Addr} {len : Nat} {l : List Nat} (h : Octs w a len l) (hb : Below w.heap.size w w') : Octs w' a len l := by
  obtain ⟨h1, h2, h3, h4⟩ := h
  refine ⟨h1, h2, h3, ?_⟩
  rcases h4 with h4 | ⟨b, off, ha, hlt, hc⟩
  · exact .inl h4
  · exact .inr ⟨b, off, ha, Nat.lt_of_lt_of_le hlt hb.size, fun i hi => (hb.cell (p := ⟨b, off + i, none⟩) hlt).trans (hc i hi)⟩
theorem Octs.empty {w : World} {a : Option Addr} : Octs w a 0 [] := ⟨rfl, by unfold maxLen; omega, (fun x hx => absurd hx List.not_mem_nil), .inl rfl⟩

theorem Oct_take {l : List Nat} (o : Crc.Oct l) (k : Nat) : Crc.Oct (l.take k) := fun x hx => o x (List.mem_of_mem_take hx)
theorem Oct_getD {l : List Nat} (o : Crc.Oct l) (k : Nat) : l.getD k 0 < 256 := by
  rw [List.getD_eq_getElem?_getD]
  by_cases h : k < l.length
  · rw [List.getElem?_eq_getElem h]; exact o _ (List.getElem_mem h)
  · rw [List.getElem?_eq_none (by omega)]; simp

theorem cell_lt {w : World} {a : Addr} {v : Value} (h : w.cell? a = some v) : a.block < w.heap.size := by
  rcases Nat.lt_or_ge a.block w.heap.size with h' | h'
  · exact h'
  · simp [World.cell?, Array.getElem?_eq_none h'] at h

theorem octs_of {w : World} {a : Option Addr} {len cap : Nat} {zs : List Int}
    (h : (a = none ∧ len = 0 ∧ cap = 0 ∧ zs = []) ∨ ∃ x, a = some x ∧ len ≤ cap ∧ cap ≤ maxLen ∧ zs.length = cap ∧ (∀ i, i < zs.length → w.cell? (x.add i) = some (.int .u8 (zs.getD i 0))) ∧ ∀ n ∈ zs, (Lit.int .u8 n).wf = true) :
    Octs w a len ((zs.take len).map Int.toNat) := by
  rcases h with ⟨rfl, rfl, rfl, rfl⟩ | ⟨x, rfl, hl, hm, hz, hc, hw⟩
  · exact Octs.empty
  · refine ⟨by simp; omega, by omega, ?_, ?_⟩
    · intro y hy
      obtain ⟨n, hn, rfl⟩ := List.mem_map.1 hy
      have := bounds_u8 (hw n (List.mem_of_mem_take hn))
      omega
    · by_cases h0 : len = 0
      · exact .inl h0
      · obtain ⟨b, off, spot⟩ := x
        have h1 := hc 0 (by omega)
        have hs : spot = none := by simpa [Addr.add] using World.cell?_spot h1
        subst hs
        refine .inr ⟨b, off, rfl, cell_lt h1, fun i hi => ?_⟩
        have h2 := hc i (by omega)
        have ea : (⟨b, off, none⟩ : Addr).add i = ⟨b, off + i, none⟩ := by
          unfold Addr.add; split
          · rename_i h; rw [h]; rfl
          · rfl
        rw [ea] at h2
        rw [h2]
        have hb := bounds_u8 (hw (zs.getD i 0) (by rw [List.getD_eq_getElem?_getD, List.getElem?_eq_getElem (by omega)]; exact List.getElem_mem _))
        have e : ((zs.take len).map Int.toNat).getD i 0 = (zs.getD i 0).toNat := by
          simp [List.getD_eq_getElem?_getD, hi]
          cases zs[i]? <;> rfl
        rw [e]
        congr 2
        omega

/-- a call that makes memory and writes nothing that was there, behind one that did so -/
theorem later {w0 w w' : World} (h : Below w0.heap.size w0 w) (k : Below w.heap.size w w') : Below w0.heap.size w0 w' := h.trans (k.mono h.size)

theorem fresh (w : World) (o : Obj) : Below w.heap.size w (w.alloc o) := (Below.refl _ _).alloc (Nat.le_refl _) o
theorem eq_eq {a b c d : Nat} (h : a = b ↔ c = d) : (((a : Int) == (b : Int)) == ((c : Int) == (d : Int))) = true := by
  by_cases k : c = d
  · have := h.2 k; subst this; subst k; simp
  · have : ¬ a = b := fun e => k (h.1 e)
    have e1 : ((a : Int) == (b : Int)) = false := by simp; omega
    have e2 : ((c : Int) == (d : Int)) = false := by simp; omega
    rw [e1, e2]; rfl
theorem info8 : (Try.prog.info? 5).map (fun i => (i.zero, i.size, i.bytes)) = some (some (.int .u8 0), 1, 1) := by kernel_rfl

def cellsOf (l : List Nat) : List Value := l.map fun n => Value.int .u8 (n : Nat)
theorem cellsOf_length (l : List Nat) : (cellsOf l).length = l.length := List.length_map _
theorem cellsOf_append (l m : List Nat) : cellsOf l ++ cellsOf m = cellsOf (l ++ m) := (List.map_append ..).symm
theorem cellsOf_one (l : List Nat) : ∀ u ∈ cellsOf l, u.oneCell' = true := by
  intro u hu
  obtain ⟨n, _, rfl⟩ := List.mem_map.1 hu
  rfl
theorem cellsOf_at (l : List Nat) (j : Nat) (h : j < l.length) : (cellsOf l)[j]? = some (Value.int .u8 (l.getD j 0 : Nat)) := by
  unfold cellsOf
  rw [List.getElem?_map, List.getD_eq_getElem?_getD, List.getElem?_eq_getElem h]
  rfl

/-- the slice is the call's own (blocks from base on) and leads to the bytes l -/
def Own (w : World) (base : Nat) (a : Option Addr) (len cap : Nat) (l : List Nat) : Prop :=
  w.ownsRow base 5 1 (.slice a len cap) len (cellsOf l) ∧ Crc.Oct l ∧ l.length = len
theorem Own.empty (w : World) (base : Nat) : Own w base none 0 0 [] := ⟨World.ownsRow_nil _ _ _ _, (fun x hx => absurd hx List.not_mem_nil), rfl⟩
theorem Own.alloc {w : World} {base : Nat} {a : Option Addr} {len cap : Nat} {l : List Nat} (h : Own w base a len cap l) (o : Obj) : Own (w.alloc o) base a len cap l := ⟨h.1.alloc o, h.2⟩
/-- a call that writes nothing that was there -/
theorem Own.below {w w' : World} {base : Nat} {a : Option Addr} {len cap : Nat} {l : List Nat} (h : Own w base a len cap l) (hb : Below w.heap.size w w') : Own w' base a len cap l :=
  ⟨h.1.kept (row := Option.none) ⟨hb.os, hb.tape, hb.output, hb.size, fun k hk _ => hb.block k hk⟩ (by
    cases hv : (Value.slice a len cap).ownBlock with
    | none => exact .inl rfl
    | some k => exact .inr (by simp)), h.2⟩
theorem Own.shape {w : World} {base : Nat} {a : Option Addr} {len cap : Nat} {l : List Nat} (h : Own w base a len cap l) :
    (a = none ∧ len = 0 ∧ cap = 0) ∨ ∃ g, a = some ⟨g, 0, none⟩ ∧ base ≤ g ∧ g < w.heap.size ∧ len ≤ maxLen := by
  rcases h.1.2 with ⟨e, _⟩ | ⟨g, c, cur, e, hb, hg, hn, hm, _⟩
  · simp only [Value.slice.injEq] at e; exact .inl e
  · simp only [Value.slice.injEq] at e
    refine .inr ⟨g, e.1, hb, ?_, by omega⟩
    rcases Nat.lt_or_ge g w.heap.size with h' | h'
    · exact h'
    · simp [Array.getElem?_eq_none h'] at hg
theorem Own.octs {w : World} {base : Nat} {a : Option Addr} {len cap : Nat} {l : List Nat} (h : Own w base a len cap l) : Octs w a len l := by
  rcases h.shape with ⟨rfl, rfl, rfl⟩ | ⟨g, rfl, hb, hg, hm⟩
  · exact ⟨h.2.2, by unfold maxLen; omega, h.2.1, .inl rfl⟩
  · refine ⟨h.2.2, hm, h.2.1, .inr ⟨g, 0, rfl, hg, fun i hi => ?_⟩⟩
    have := h.1.cellAt i (by omega)
    rw [Nat.zero_add, this, cellsOf_at _ _ (by rw [h.2.2]; exact hi)]
theorem Own.frozen {w : World} {base g len cap : Nat} {l : List Nat} (h : Own w base (some ⟨g, 0, none⟩) len cap l) (j : Nat) : w.frozen? ⟨g, j, none⟩ = false := h.1.frozenAt j
theorem Own.stored {w : World} {base g len cap : Nat} {l : List Nat} (h : Own w base (some ⟨g, 0, none⟩) len cap l) (j c : Nat) (hc : c < 256) :
    Own (w.setCell ⟨g, j, none⟩ (.int .u8 (c : Nat))) base (some ⟨g, 0, none⟩) len cap (l.set j c) := by
  refine ⟨?_, ?_, by simpa using h.2.2⟩
  · have := (h.1.stored j (.int .u8 (c : Nat))).1
    unfold cellsOf at this ⊢
    rwa [← List.map_set] at this
  · intro x hx
    rcases List.mem_or_eq_of_mem_set hx with hx | rfl
    · exact h.2.1 x hx
    · exact hc

theorem Own.cell {w : World} {base g len cap : Nat} {l : List Nat} (h : Own w base (some ⟨g, 0, none⟩) len cap l) (j : Nat) (hj : j < len) : w.cell? ⟨g, j, none⟩ = some (.int .u8 (l.getD j 0 : Nat)) := by
  rw [h.1.cellAt j (by omega), cellsOf_at _ _ (by rw [h.2.2]; exact hj)]
theorem Own.bent {w : World} {base g len cap : Nat} {l : List Nat} (h : Own w base (some ⟨g, 0, none⟩) len cap l) (j c x : Nat) (hc : c < 256) (hx : x < 256) :
    Own (w.setCell ⟨g, j, none⟩ (.int .u8 (bits .xor .u8 (c : Int) (x : Int)))) base (some ⟨g, 0, none⟩) len cap (l.set j (c ^^^ x)) := by
  rw [u8_xor_nat c x hc hx]; exact h.stored j _ (Crc.xor_lt8 hc hx)
theorem ne_of {a b : Nat} (h : a ≠ b) : ((a : Int) != (b : Int)) = true := by
  have : ((a : Int) == (b : Int)) = false := by simp; omega
  simp only [bne, this]; rfl
/-- two bytes that are laid for an append -/
theorem two_at (w : World) (c d : Nat) (hc : c < 256) (hd : d < 256) : Octs (w.alloc (.cells #[.int .u8 (c : Nat), .int .u8 (d : Nat)] 5)) (some ⟨w.heap.size, 0, none⟩) 2 [c, d] := by
  refine ⟨rfl, by unfold maxLen; omega, ?_, .inr ⟨w.heap.size, 0, rfl, by simp, ?_⟩⟩
  · intro x hx
    simp only [List.mem_cons, List.not_mem_nil, or_false] at hx
    omega
  · intro i hi
    have : i = 0 ∨ i = 1 := by omega
    rcases this with rfl | rfl <;> simp
theorem two_is (w : World) (x y : Int) (c d : Nat) (hx : x = c) (hy : y = d) (hc : c < 256) (hd : d < 256) : Octs (w.alloc (.cells #[.int .u8 x, .int .u8 y] 5)) (some ⟨w.heap.size, 0, none⟩) 2 [c, d] := by
  subst hx hy; exact two_at w c d hc hd
theorem nil_of {w : World} {a : Option Addr} {len cap : Nat} {zs : List Int}
    (h : (a = none ∧ len = 0 ∧ cap = 0 ∧ zs = []) ∨ ∃ x, a = some x ∧ len ≤ cap ∧ cap ≤ maxLen ∧ zs.length = cap ∧ (∀ i, i < zs.length → w.cell? (x.add i) = some (.int .u8 (zs.getD i 0))) ∧ ∀ n ∈ zs, (Lit.int .u8 n).wf = true) :
    a = none → len = 0 ∧ cap = 0 := by
  rcases h with ⟨rfl, rfl, rfl, rfl⟩ | ⟨x, rfl, _⟩
  · exact fun _ => ⟨rfl, rfl⟩
  · intro h; cases h
theorem Octs.take {w : World} {a : Option Addr} {len n : Nat} {l : List Nat} (h : Octs w a len l) (hn : n ≤ len) : Octs w a n (l.take n) := by
  obtain ⟨h1, h2, h3, h4⟩ := h
  refine ⟨by simp; omega, by omega, Oct_take h3 n, ?_⟩
  rcases h4 with h4 | ⟨b, off, ha, hlt, hc⟩
  · exact .inl (by omega)
  · refine .inr ⟨b, off, ha, hlt, fun i hi => ?_⟩
    rw [hc i (by omega)]
    congr 2
    simp [List.getD_eq_getElem?_getD, hi]
theorem cap_of {w : World} {a : Option Addr} {len cap : Nat} {zs : List Int}
    (h : (a = none ∧ len = 0 ∧ cap = 0 ∧ zs = []) ∨ ∃ x, a = some x ∧ len ≤ cap ∧ cap ≤ maxLen ∧ zs.length = cap ∧ (∀ i, i < zs.length → w.cell? (x.add i) = some (.int .u8 (zs.getD i 0))) ∧ ∀ n ∈ zs, (Lit.int .u8 n).wf = true) :
    len ≤ cap ∧ cap ≤ 9223372036854775807 := by
  rcases h with ⟨rfl, rfl, rfl, rfl⟩ | ⟨x, rfl, h1, h2, _⟩
  · exact ⟨Nat.le_refl _, by omega⟩
  · unfold maxLen at h2; omega
theorem Octs.at {w : World} {a : Option Addr} {len : Nat} {l : List Nat} (h : Octs w a len l) (hp : 0 < len) : ∃ b off, a = some ⟨b, off, none⟩ ∧ ∀ i, i < len → w.cell? ⟨b, off + i, none⟩ = some (.int .u8 (l.getD i 0 : Nat)) := by
  rcases h.2.2.2 with h0 | ⟨b, off, ha, _, hc⟩
  · omega
  · exact ⟨b, off, ha, hc⟩

theorem one_is (w : World) (x : Int) (c : Nat) (hx : x = c) (hc : c < 256) : Octs (w.alloc (.cells #[.int .u8 x] 5)) (some ⟨w.heap.size, 0, none⟩) 1 [c] := by
  subst hx
  refine ⟨rfl, by unfold maxLen; omega, ?_, .inr ⟨w.heap.size, 0, rfl, by simp, ?_⟩⟩
  · intro x hx
    simp only [List.mem_cons, List.not_mem_nil, or_false] at hx
    omega
  · intro i hi
    obtain rfl : i = 0 := by omega
    simp
def strOf (l : List Nat) : ByteArray := ⟨(l.map UInt8.ofNat).toArray⟩
theorem strOf_size (l : List Nat) : (strOf l).size = l.length := by
  show (l.map UInt8.ofNat).toArray.size = _
  simp
end Go.Proofs.Ytfldhjeeoaplfaa
