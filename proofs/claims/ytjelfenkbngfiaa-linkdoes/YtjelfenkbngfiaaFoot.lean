/-
  What a call may have written: footprints. Conditions: none.
-/
import Derived.Test.YtjelfenkbngfiaaRowsOf
import Derived.Deep.AppendLies
namespace Go.Proofs.Ytjelfenkbngfiaa
open Go.ChangeShapes Go.WideShapes Go.ChangeAt Go.RowKit
set_option linter.unusedVariables false

/-- of what was there in w nothing has turned but blocks of F -/
structure Sans (F : Nat → Prop) (w w' : World) : Prop where
  os : w'.os = w.os
  tape : w'.tape = w.tape
  output : w'.output = w.output
  size : w.heap.size ≤ w'.heap.size
  block : ∀ k, k < w.heap.size → ¬ F k → w'.heap[k]? = w.heap[k]?
theorem Sans.refl (F : Nat → Prop) (w : World) : Sans F w w := ⟨rfl, rfl, rfl, Nat.le_refl _, fun _ _ _ => rfl⟩
theorem Sans.trans {F G : Nat → Prop} {w w1 w2 : World} (h : Sans F w w1) (k : Sans G w1 w2) (hG : ∀ k, G k → F k ∨ w.heap.size ≤ k) : Sans F w w2 :=
  ⟨k.os.trans h.os, k.tape.trans h.tape, k.output.trans h.output, Nat.le_trans h.size k.size, fun j hj hn => (k.block j (Nat.lt_of_lt_of_le hj h.size) (fun e => (hG j e).elim hn (fun e => by omega))).trans (h.block j hj hn)⟩
theorem Sans.of_below {F : Nat → Prop} {w w' : World} (h : Below w.heap.size w w') : Sans F w w' := ⟨h.os, h.tape, h.output, h.size, fun k hk _ => h.block k hk⟩
theorem Sans.of_grown {F : Nat → Prop} {w w' : World} {r : Option Nat} (h : w.grownBy w' r) (hr : ∀ k, r = some k → F k) : Sans F w w' := ⟨h.os, h.tape, h.output, h.size, fun k hk hn => h.block k hk (fun e => hn (hr k e.symm))⟩
theorem Sans.of_set {F : Nat → Prop} (w : World) (p : Addr) (v : Value) (hp : F p.block) : Sans F w (w.setCell p v) :=
  ⟨rfl, rfl, rfl, by simp [World.setCell], fun k hk hn => Below.heap_setCell _ _ _ _ (fun e => hn (e ▸ hp))⟩
theorem Sans.mono {F G : Nat → Prop} {w w' : World} (h : Sans F w w') (hG : ∀ k, F k → G k) : Sans G w w' := ⟨h.os, h.tape, h.output, h.size, fun k hk hn => h.block k hk (fun e => hn (hG k e))⟩
/-- what has turned is all new since w0 -/
theorem Sans.below {F : Nat → Prop} {w w' : World} {B : Nat} (h : Sans F w w') (hB : B ≤ w.heap.size) (hF : ∀ k, F k → B ≤ k) : Below B w w' :=
  ⟨h.os, h.tape, h.output, h.size, fun k hk => h.block k (by omega) (fun e => by have := hF k e; omega)⟩
theorem Sans.cell {F : Nat → Prop} {w w' : World} (h : Sans F w w') {p : Addr} (hp : p.block < w.heap.size) (hn : ¬ F p.block) : w'.cell? p = w.cell? p := World.cell?_of_block (w := w) (h.block p.block hp hn)
theorem Sans.frozen {F : Nat → Prop} {w w' : World} (h : Sans F w w') {p : Addr} (hp : p.block < w.heap.size) (hn : ¬ F p.block) : w'.frozen? p = w.frozen? p := World.frozen?_of_block (w := w) (h.block p.block hp hn)
theorem Octs.sans {F : Nat → Prop} {w w' : World} {a : Option Addr} {len : Nat} {l : List Nat} (h : Octs w a len l) (k : Sans F w w') (hn : ∀ ad, a = some ad → ¬ F ad.block) : Octs w' a len l := by
  obtain ⟨h1, h2, h3, h4⟩ := h
  refine ⟨h1, h2, h3, ?_⟩
  rcases h4 with h4 | ⟨b, off, ha, hlt, hc⟩
  · exact .inl h4
  · exact .inr ⟨b, off, ha, Nat.lt_of_lt_of_le hlt k.size, fun i hi => (k.cell (p := ⟨b, off + i, none⟩) hlt (hn ⟨b, off, none⟩ ha)).trans (hc i hi)⟩
theorem RowV.ok.sans {F : Nat → Prop} {w w' : World} {r : RowV} (h : r.ok w) (k : Sans F w w') (hn : ∀ ad, r.a = some ad → ¬ F ad.block) : r.ok w' := ⟨h.1.sans k hn, h.2⟩

/-- a slice of rows that the call has made itself -/
def OwnL (w : World) (a : Option Addr) (cap : Nat) (rs : List RowV) : Prop := w.ownsRow 0 29 1 (.slice a rs.length cap) rs.length (rs.map RowV.val)
theorem OwnL.nil (w : World) : OwnL w none 0 [] := World.ownsRow_nil _ _ _ _
theorem OwnL.sans {F : Nat → Prop} {w w' : World} {a : Option Addr} {cap : Nat} {rs : List RowV} (h : OwnL w a cap rs) (k : Sans F w w') (hn : ∀ ad, a = some ad → ¬ F ad.block) : OwnL w' a cap rs := by
  refine ⟨h.1, ?_⟩
  rcases h.2 with h2 | ⟨g, cp, cur, e, hb, hg, r⟩
  · exact .inl h2
  · refine .inr ⟨g, cp, cur, e, hb, ?_, r⟩
    have ha : a = some ⟨g, 0, none⟩ := by simp only [Value.slice.injEq] at e; exact e.1
    have hlt : g < w.heap.size := by
      rcases Nat.lt_or_ge g w.heap.size with h' | h'
      · exact h'
      · simp [Array.getElem?_eq_none h'] at hg
    exact (k.block g hlt (hn _ ha)).trans hg
theorem OwnL.shape {w : World} {a : Option Addr} {cap : Nat} {rs : List RowV} (h : OwnL w a cap rs) : (a = none ∧ rs = [] ∧ cap = 0) ∨ ∃ g, a = some ⟨g, 0, none⟩ ∧ g < w.heap.size ∧ rs.length ≤ cap := by
  rcases h.2 with ⟨e, h0⟩ | ⟨g, cp, cur, e, hb, hg, hn, _⟩
  · simp only [Value.slice.injEq] at e
    exact .inl ⟨e.1, List.length_eq_zero_iff.1 h0, e.2.2⟩
  · simp only [Value.slice.injEq] at e
    refine .inr ⟨g, e.1, ?_, by omega⟩
    rcases Nat.lt_or_ge g w.heap.size with h' | h'
    · exact h'
    · simp [Array.getElem?_eq_none h'] at hg
theorem OwnL.at {w : World} {g cap : Nat} {rs : List RowV} (h : OwnL w (some ⟨g, 0, none⟩) cap rs) {j : Nat} (hj : j < rs.length) : w.cell? ⟨g, j, none⟩ = some (.slice (rs.getD j zrow).a (rs.getD j zrow).len (rs.getD j zrow).cap) := by
  have := h.cellAt j (by omega)
  rw [this, List.getElem?_map, List.getElem?_eq_getElem hj]
  simp [RowV.val, List.getD_eq_getElem?_getD, hj]
theorem OwnL.frozen {w : World} {g cap : Nat} {rs : List RowV} (h : OwnL w (some ⟨g, 0, none⟩) cap rs) (j : Nat) : w.frozen? ⟨g, j, none⟩ = false := h.frozenAt j
theorem OwnL.lines {w : World} {a : Option Addr} {cap : Nat} {rs : List RowV} (h : OwnL w a cap rs) (hl : rs.length ≤ 1000000) (hok : ∀ r ∈ rs, r.ok w) : Lines w a rs.length rs := by
  refine ⟨rfl, hl, ?_, hok⟩
  rcases h.shape with ⟨_, h0, _⟩ | ⟨g, rfl, hg, _⟩
  · exact .inl (by rw [h0]; rfl)
  · exact .inr ⟨g, 0, rfl, hg, fun j hj => by rw [Nat.zero_add]; exact h.at hj⟩
theorem infoL : (Try.prog.info? 29).map (fun i => (i.zero, i.size, i.bytes)) = some (some (.slice none 0 0), 1, 24) := by kernel_rfl
end Go.Proofs.Ytjelfenkbngfiaa
