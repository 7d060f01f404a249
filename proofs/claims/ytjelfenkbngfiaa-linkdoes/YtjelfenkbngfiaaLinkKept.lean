/-
  Rows that were told stay as they are while calls turn the link; bending twice. Conditions: none.
-/
import Derived.Test.YtjelfenkbngfiaaLinkMine
namespace Go.Proofs.Ytjelfenkbngfiaa
open Go.ChangeShapes Go.WideShapes Go.ChangeAt Go.RowKit
set_option linter.unusedVariables false
variable {L : World → (Nat → Prop) → Nat → Nat → List (List Nat) → Prop}

/-- the slice leads to the rows rs, and none of that is the link's -/
structure Kept (F : Nat → Prop) (w : World) (a : Option Addr) (n : Nat) (rs : List RowV) : Prop where
  lines : Lines w a n rs
  head : 0 < n → ∀ ad, a = some ad → ¬ F ad.block
  rows : ∀ r ∈ rs, 0 < r.len → ∀ ad, r.a = some ad → ¬ F ad.block
theorem Told.kept {F : Nat → Prop} {w w' : World} {a : Option Addr} {n : Nat} {rs : List RowV} (h : Told w w' a n rs) (hF : ∀ k, F k → k < w.heap.size) : Kept F w' a n rs :=
  ⟨h.lines, fun _ ad e hf => by have := h.head ad e; have := hF _ hf; omega, fun r hr _ ad e hf => by have := (h.rows r hr ad e).1; have := hF _ hf; omega⟩
theorem Kept.below {F : Nat → Prop} {w w' : World} {a : Option Addr} {n : Nat} {rs : List RowV} (h : Kept F w a n rs) (k : Below w.heap.size w w') : Kept F w' a n rs := ⟨h.lines.below k, h.head, h.rows⟩
theorem Kept.step {F F' : Nat → Prop} {w w' : World} {a : Option Addr} {n : Nat} {rs : List RowV} (h : Kept F w a n rs) (g : Grows F w F' w') : Kept F' w' a n rs := by
  obtain ⟨⟨h1, h2, h3, h4⟩, hh, hr⟩ := h
  have hh' : 0 < n → ∀ ad, a = some ad → ¬ F' ad.block := by
    intro hn ad e hf
    rcases h3 with h3 | ⟨b, off, e', hlt, hc⟩
    · omega
    · rcases g.2 _ hf with q | q
      · exact hh hn ad e q
      · rw [e'] at e; cases e; simp at q; omega
  have hr' : ∀ r ∈ rs, 0 < r.len → ∀ ad, r.a = some ad → ¬ F' ad.block := by
    intro r hm hn ad e hf
    rcases (h4 r hm).1.2.2.2 with h0 | ⟨b, off, e', hlt, hc⟩
    · omega
    · rcases g.2 _ hf with q | q
      · exact hr r hm hn ad e q
      · rw [e'] at e; cases e; simp at q; omega
  refine ⟨⟨h1, h2, ?_, ?_⟩, hh', hr'⟩
  · rcases h3 with h3 | ⟨b, off, e, hlt, hc⟩
    · exact .inl h3
    · by_cases hn : 0 < n
      · exact .inr ⟨b, off, e, Nat.lt_of_lt_of_le hlt g.1.size, fun j hj => (g.1.cell (p := ⟨b, off + j, none⟩) hlt (hh hn ⟨b, off, none⟩ e)).trans (hc j hj)⟩
      · exact .inl (by omega)
  · intro r hm
    refine ⟨?_, (h4 r hm).2⟩
    obtain ⟨q1, q2, q3, q4⟩ := (h4 r hm).1
    refine ⟨q1, q2, q3, ?_⟩
    rcases q4 with q4 | ⟨b, off, e, hlt, hc⟩
    · exact .inl q4
    · by_cases hn : 0 < r.len
      · exact .inr ⟨b, off, e, Nat.lt_of_lt_of_le hlt g.1.size, fun j hj => (g.1.cell (p := ⟨b, off + j, none⟩) hlt (hr r hm hn ⟨b, off, none⟩ e)).trans (hc j hj)⟩
      · exact .inl (by omega)
theorem texts_getD {rs : List RowV} {ts : List (List Nat)} {k : Nat} (h : texts rs = ts) : (rs.getD k zrow).l = ts.getD k [] := by
  subst h
  unfold texts
  rw [List.getD_eq_getElem?_getD, List.getD_eq_getElem?_getD, List.getElem?_map]
  cases rs[k]? <;> rfl
theorem bentRow_length (l : List Nat) (t x : Nat) : (bentRow l t x).length = l.length := by unfold bentRow; simp
theorem bentRow_twice (l : List Nat) (t x : Nat) (h : l ≠ []) : bentRow (bentRow l t x) t x = l := by
  have hp : 0 < l.length := List.length_pos_iff.2 h
  have hm := Nat.mod_lt t hp
  unfold bentRow
  rw [List.length_set]
  rw [List.set_set]
  have : (l.set (t % l.length) (l.getD (t % l.length) 0 ^^^ x)).getD (t % l.length) 0 = l.getD (t % l.length) 0 ^^^ x := by
    rw [List.getD_eq_getElem?_getD, List.getElem?_set_self (by omega)]; rfl
  rw [this, Nat.xor_assoc, Nat.xor_self, Nat.xor_zero, List.getD_eq_getElem?_getD, List.getElem?_eq_getElem hm]
  simp
theorem bentRow_ne (l : List Nat) (t x : Nat) (h : l ≠ []) (hx : x ≠ 0) : bentRow l t x ≠ l := by
  have hp : 0 < l.length := List.length_pos_iff.2 h
  have hm := Nat.mod_lt t hp
  intro e
  have e2 := congrArg (fun q => q.getD (t % l.length) 0) e
  unfold bentRow at e2
  simp only [List.getD_eq_getElem?_getD, List.getElem?_set_self hm, Option.getD_some] at e2
  have : (l[t % l.length]?.getD 0) ^^^ ((l[t % l.length]?.getD 0) ^^^ x) = (l[t % l.length]?.getD 0) ^^^ (l[t % l.length]?.getD 0) := by rw [e2]
  rw [← Nat.xor_assoc, Nat.xor_self, Nat.zero_xor] at this
  exact hx this
theorem set_bent_twice (ts : List (List Nat)) (k t x : Nat) (hk : k < ts.length) (h : ts.getD k [] ≠ []) :
    (ts.set k (bentRow (ts.getD k []) t x)).set k (bentRow ((ts.set k (bentRow (ts.getD k []) t x)).getD k []) t x) = ts := by
  have : (ts.set k (bentRow (ts.getD k []) t x)).getD k [] = bentRow (ts.getD k []) t x := by
    rw [List.getD_eq_getElem?_getD, List.getElem?_set_self hk]; rfl
  rw [this, List.set_set, bentRow_twice _ _ _ h, List.getD_eq_getElem?_getD, List.getElem?_eq_getElem hk]
  simp
theorem set_bent_ne (ts : List (List Nat)) (k t x : Nat) (hk : k < ts.length) (h : ts.getD k [] ≠ []) (hx : x ≠ 0) : ts ≠ ts.set k (bentRow (ts.getD k []) t x) := by
  intro e
  have e2 : ts.getD k [] = (ts.set k (bentRow (ts.getD k []) t x)).getD k [] := congrArg (fun q => q.getD k []) e
  rw [List.getD_eq_getElem?_getD (l := ts.set _ _), List.getElem?_set_self hk] at e2
  exact bentRow_ne _ t x h hx e2.symm
end Go.Proofs.Ytjelfenkbngfiaa
