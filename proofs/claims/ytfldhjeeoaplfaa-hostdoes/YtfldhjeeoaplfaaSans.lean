/-
  What a call may have written: footprints, in a seat of whatever packages. Conditions: none.
-/
import Derived.Test.YtfldhjeeoaplfaaOctets
namespace Go.Proofs.Ytfldhjeeoaplfaa
open Go.ChangeShapes Go.WideShapes Go.ChangeAt Go.RowKit
set_option linter.unusedVariables false

/-- of what was there in w nothing has turned but blocks of F -/
structure Sans (F : Nat → Prop) (w w' : World) : Prop where
  os : w'.os = w.os
  tape : w'.tape = w.tape
  output : w'.output = w.output
  size : w.heap.size ≤ w'.heap.size
  block : ∀ k, k < w.heap.size → ¬ F k → w'.heap[k]? = w.heap[k]?
theorem Sans.refl (F : Nat → Prop) (w : World) : Sans F w w := ⟨rfl, rfl, rfl, Nat.le_refl _, fun _ _ _ => rfl⟩
theorem Sans.trans {F G : Nat → Prop} {w w1 w2 : World} (h : Sans F w w1) (k : Sans G w1 w2) (hG : ∀ k, G k → F k ∨ w.heap.size ≤ k) : Sans F w w2 :=
  ⟨k.os.trans h.os, k.tape.trans h.tape, k.output.trans h.output, Nat.le_trans h.size k.size, fun j hj hn => (k.block j (Nat.lt_of_lt_of_le hj h.size) (fun e => (hG j e).elim hn (fun e => by omega))).trans (h.block j hj hn)⟩
theorem Sans.of_below {F : Nat → Prop} {w w' : World} (h : Below w.heap.size w w') : Sans F w w' := ⟨h.os, h.tape, h.output, h.size, fun k hk _ => h.block k hk⟩
theorem Sans.of_grown {F : Nat → Prop} {w w' : World} {r : Option Nat} (h : w.grownBy w' r) (hr : ∀ k, r = some k → F k) : Sans F w w' := ⟨h.os, h.tape, h.output, h.size, fun k hk hn => h.block k hk (fun e => hn (hr k e.symm))⟩
theorem Sans.of_set {F : Nat → Prop} (w : World) (p : Addr) (v : Value) (hp : F p.block) : Sans F w (w.setCell p v) :=
  ⟨rfl, rfl, rfl, by simp [World.setCell], fun k hk hn => Below.heap_setCell _ _ _ _ (fun e => hn (e ▸ hp))⟩
theorem Sans.mono {F G : Nat → Prop} {w w' : World} (h : Sans F w w') (hG : ∀ k, F k → G k) : Sans G w w' := ⟨h.os, h.tape, h.output, h.size, fun k hk hn => h.block k hk (fun e => hn (hG k e))⟩
/-- what has turned is all new since w0 -/
theorem Sans.below {F : Nat → Prop} {w w' : World} {B : Nat} (h : Sans F w w') (hB : B ≤ w.heap.size) (hF : ∀ k, F k → B ≤ k) : Below B w w' :=
  ⟨h.os, h.tape, h.output, h.size, fun k hk => h.block k (by omega) (fun e => by have := hF k e; omega)⟩
theorem Sans.cell {F : Nat → Prop} {w w' : World} (h : Sans F w w') {p : Addr} (hp : p.block < w.heap.size) (hn : ¬ F p.block) : w'.cell? p = w.cell? p := World.cell?_of_block (w := w) (h.block p.block hp hn)
theorem Sans.frozen {F : Nat → Prop} {w w' : World} (h : Sans F w w') {p : Addr} (hp : p.block < w.heap.size) (hn : ¬ F p.block) : w'.frozen? p = w.frozen? p := World.frozen?_of_block (w := w) (h.block p.block hp hn)
theorem Octs.sans {F : Nat → Prop} {w w' : World} {a : Option Addr} {len : Nat} {l : List Nat} (h : Octs w a len l) (k : Sans F w w') (hn : ∀ ad, a = some ad → ¬ F ad.block) : Octs w' a len l := by
  obtain ⟨h1, h2, h3, h4⟩ := h
  refine ⟨h1, h2, h3, ?_⟩
  rcases h4 with h4 | ⟨b, off, ha, hlt, hc⟩
  · exact .inl h4
  · exact .inr ⟨b, off, ha, Nat.lt_of_lt_of_le hlt k.size, fun i hi => (k.cell (p := ⟨b, off + i, none⟩) hlt (hn ⟨b, off, none⟩ ha)).trans (hc i hi)⟩
theorem Sans.drewN {F : Nat → Prop} (w : World) (n : Nat) : Sans F w (w.drewN n) := ⟨rfl, rfl, rfl, Nat.le_refl _, fun _ _ _ => rfl⟩
theorem Sans.drew {F : Nat → Prop} (w : World) : Sans F w w.drew := ⟨rfl, rfl, rfl, Nat.le_refl _, fun _ _ _ => rfl⟩
theorem Sans.alloc {F : Nat → Prop} (w : World) (o : Obj) : Sans F w (w.alloc o) := Sans.of_below (fresh w o)
theorem Sans.then {F : Nat → Prop} {w w1 w2 : World} (h : Sans F w w1) (k : Sans F w1 w2) : Sans F w w2 := h.trans k fun _ e => .inl e
theorem cell_set {w : World} {p i j : Nat} {u v : Value} (hc : w.cell? ⟨p, i, none⟩ = some v) (hij : i ≠ j) : (w.setCell ⟨p, j, none⟩ u).cell? ⟨p, i, none⟩ = some v := by
  rw [World.cell?_setCell_other]
  · exact hc
  · simp
    try omega
end Go.Proofs.Ytfldhjeeoaplfaa
