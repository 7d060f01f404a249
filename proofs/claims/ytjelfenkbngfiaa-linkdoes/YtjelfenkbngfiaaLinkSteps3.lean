/-
  As LinkSteps: both links hold the same; the call's copy in a new block. Conditions: that package link comes to its contracts (LinkSpec).
-/
import Derived.Test.YtjelfenkbngfiaaLinkSteps2
namespace Go.Proofs.Ytjelfenkbngfiaa
open Go.ChangeShapes Go.WideShapes Go.ChangeAt Go.RowKit
set_option linter.unusedVariables false
variable {L : World → (Nat → Prop) → Nat → Nat → List (List Nat) → Prop}

/-- both links hold the same -/
def Two (L : World → (Nat → Prop) → Nat → Nat → List (List Nat) → Prop) (w0 w : World) (p q room : Nat) : Prop := ∃ ts F G rs a cap, Pair L w0 w F G p q room ts rs a cap ∧ texts rs = ts
theorem Two.below {w0 w : World} {p q room : Nat} (h : Two L w0 w p q room) : Below w0.heap.size w0 w := by
  obtain ⟨_, _, _, _, _, _, h, _⟩ := h
  exact h.below
theorem St.two {w0 w : World} {p q room : Nat} {ts : List (List Nat)} {bx : Nat} {v : OpV} (h : St L w0 w p q room ts ts bx v) : Two L w0 w p q room := by
  obtain ⟨F, G, rs, a, cap, h, ht, _⟩ := h
  exact ⟨ts, F, G, rs, a, cap, h, ht⟩
theorem Two.box (S : LinkSpec L) {w0 w : World} {p q room : Nat} (h : Two L w0 w p q room) (v : OpV) (hv : v.ok w0) (T : TypeId) :
    ∃ ts, St L w0 (w.alloc (.cells #[.int .u8 v.k, .slice v.a v.len v.cap, .int .i64 v.i, .int .i64 v.t, .int .u8 v.x] T)) p q room ts ts w.heap.size v := by
  obtain ⟨ts, F, G, rs, a, cap, h, ht⟩ := h
  refine ⟨ts, F, G, rs, a, cap, h.later S (fresh _ _), ht, fun e => by have := S.foot h.link _ e; omega, fun e => by have := h.doc.foot _ e; omega, ?_, hv⟩
  exact ⟨by simp, by simp, by simp, by simp, by simp, hv.below (Go.Proofs.Ytjelfenkbngfiaa.later h.below (fresh _ _))⟩
end Go.Proofs.Ytjelfenkbngfiaa
