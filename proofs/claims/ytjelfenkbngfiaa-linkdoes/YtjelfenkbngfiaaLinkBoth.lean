/-
  The program's link and the document's side by side, their memory apart: a call on one leaves the other. Conditions: that package link comes to its contracts (LinkSpec).
-/
import Derived.Test.YtjelfenkbngfiaaLinkKept
namespace Go.Proofs.Ytjelfenkbngfiaa
open Go.ChangeShapes Go.WideShapes Go.ChangeAt Go.RowKit
set_option linter.unusedVariables false
variable {L : World → (Nat → Prop) → Nat → Nat → List (List Nat) → Prop}

/-- link p holds ts, the document's link q holds rs; each its own memory, all of it new since w0 -/
structure Pair (L : World → (Nat → Prop) → Nat → Nat → List (List Nat) → Prop) (w0 w : World) (F G : Nat → Prop) (p q room : Nat) (ts : List (List Nat)) (rs : List RowV) (a : Option Addr) (cap : Nat) : Prop where
  link : L w F p room ts
  doc : RefAt w G q room rs a cap
  apart : ∀ k, F k → ¬ G k
  newF : ∀ k, F k → w0.heap.size ≤ k
  newG : ∀ k, G k → w0.heap.size ≤ k
  below : Below w0.heap.size w0 w
theorem Pair.on_link {w0 w w' : World} {F G F' : Nat → Prop} {p q room : Nat} {ts ts' : List (List Nat)} {rs : List RowV} {a : Option Addr} {cap : Nat} (h : Pair L w0 w F G p q room ts rs a cap) (hL : L w' F' p room ts') (g : Grows F w F' w') : Pair L w0 w' F' G p q room ts' rs a cap :=
  ⟨hL, h.doc.sans g.1 (fun k hk hf => h.apart k hf hk),
    fun k hk hG => (g.2 k hk).elim (fun e => h.apart k e hG) (fun e => by have := h.doc.foot k hG; omega),
    fun k hk => (g.2 k hk).elim (h.newF k) (fun e => Nat.le_trans h.below.size e), h.newG,
    h.below.trans (g.1.below h.below.size h.newF)⟩
theorem Pair.on_doc (S : LinkSpec L) {w0 w w' : World} {F G G' : Nat → Prop} {p q room : Nat} {ts : List (List Nat)} {rs rs' : List RowV} {a a' : Option Addr} {cap cap' : Nat} (h : Pair L w0 w F G p q room ts rs a cap) (hR : RefAt w' G' q room rs' a' cap') (g : Grows G w G' w') : Pair L w0 w' F G' p q room ts rs' a' cap' :=
  ⟨S.sans h.link g.1 h.apart, hR,
    fun k hF hk => (g.2 k hk).elim (fun e => h.apart k hF e) (fun e => by have := S.foot h.link k hF; omega),
    h.newF, fun k hk => (g.2 k hk).elim (h.newG k) (fun e => Nat.le_trans h.below.size e),
    h.below.trans (g.1.below h.below.size h.newG)⟩
theorem Pair.later (S : LinkSpec L) {w0 w w' : World} {F G : Nat → Prop} {p q room : Nat} {ts : List (List Nat)} {rs : List RowV} {a : Option Addr} {cap : Nat} (h : Pair L w0 w F G p q room ts rs a cap) (k : Below w.heap.size w w') : Pair L w0 w' F G p q room ts rs a cap :=
  ⟨S.below h.link k, h.doc.below k, h.apart, h.newF, h.newG, Go.Proofs.Ytjelfenkbngfiaa.later h.below k⟩
/-- the document's rows, as a slice that leads to them -/
theorem RefAt.lines {w : World} {G : Nat → Prop} {q room : Nat} {rs : List RowV} {a : Option Addr} {cap : Nat} (h : RefAt w G q room rs a cap) : Lines w a rs.length rs := by
  have hr := h.room1
  exact h.own.lines (by omega) (fun r hm => (h.rows r hm).1)
/-- both made: the link first, then the document's -/
theorem pair_new {w0 w1 w2 : World} {F : Nat → Prop} {p room : Nat} (S : LinkSpec L) (hL : L w1 F p room []) (hF : ∀ k, F k → w0.heap.size ≤ k) (hb : Below w0.heap.size w0 w1) (hR : RefAt w2 (fun k => k = w1.heap.size) w1.heap.size room [] none 0) (hb2 : Below w1.heap.size w1 w2) :
    Pair L w0 w2 F (fun k => k = w1.heap.size) p w1.heap.size room [] [] none 0 :=
  ⟨S.below hL hb2, hR, fun k hk e => by have := S.foot hL k hk; omega, hF, fun k e => by have := hb.size; omega, Go.Proofs.Ytjelfenkbngfiaa.later hb hb2⟩
end Go.Proofs.Ytjelfenkbngfiaa
