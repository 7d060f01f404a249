/-
  A frame that is handed in by value: what it reads as, and back. Conditions: none.
-/
import Derived.Test.YtmllgbgcageccaaRows
import Derived.WalkKit
import Derived.ProofKit
import Derived.OpenShut
import Derived.ChangeSame
import Derived.Deep.Fields
namespace Go.Proofs.Ytmllgbgcageccaa
open Go.ChangeShapes Go.WideShapes Go.ChangeAt Go.RowKit
set_option linter.unusedVariables false

theorem array6 {α : Type} {cs : Array α} (h : cs.size = 6) : ∃ c0 c1 c2 c3 c4 c5, cs = #[c0, c1, c2, c3, c4, c5] := by
  obtain ⟨l⟩ := cs
  match l, h with
  | [c0, c1, c2, c3, c4, c5], _ => exact ⟨c0, c1, c2, c3, c4, c5, rfl⟩
theorem list6 {α : Type} {cs : List α} (h : cs.length = 6) : ∃ c0 c1 c2 c3 c4 c5, cs = [c0, c1, c2, c3, c4, c5] := by
  match cs, h with
  | [c0, c1, c2, c3, c4, c5], _ => exact ⟨c0, c1, c2, c3, c4, c5, rfl⟩
theorem cells8 : Try.prog.cellsOf 5 = 1 := by kernel_rfl
theorem cells16 : Try.prog.cellsOf 22 = 1 := by kernel_rfl
theorem cells32 : Try.prog.cellsOf 23 = 1 := by kernel_rfl
theorem cellsF : Try.prog.cellsOf 25 = 6 := by kernel_rfl
theorem open_frame {H : Type} {enc : TypeId × Value → H} {w : World} {base : Nat} {spare : Nat → Bool} {held : Bool} {r : Reach} {b0 : Nat} {v : Value} {d : DataW H} {p : List MemPlace}
    (hv : Value.okWide Try.prog w r b0 25 v) (h : DataW.Trod enc Try.prog w base spare held 25 v d p) :
    ∃ a0 a1 a2 a3 a4 a5 : Int, v = .agg #[.int .u8 a0, .int .u8 a1, .int .u16 a2, .int .u8 a3, .int .u8 a4, .int .u32 a5] ∧ d = .agg [.lit (.int .u8 a0), .lit (.int .u8 a1), .lit (.int .u16 a2), .lit (.int .u8 a3), .lit (.int .u8 a4), .lit (.int .u32 a5)] ∧ p = [] ∧
      (Lit.int .u8 a0).wf = true ∧ (Lit.int .u8 a1).wf = true ∧ (Lit.int .u16 a2).wf = true ∧ (Lit.int .u8 a3).wf = true ∧ (Lit.int .u8 a4).wf = true ∧ (Lit.int .u32 a5).wf = true := by
  obtain ⟨cs, rfl, hsz⟩ := okWide_struct Try.underlying25 hv
  obtain ⟨c0, c1, c2, c3, c4, c5, rfl⟩ := array6 (hsz.trans cellsF)
  obtain ⟨fuel, hf⟩ := h
  obtain ⟨xs, n, _, hx, _, hlen, hfl⟩ := DataW.trod_struct Try.underlying25 hf
  obtain ⟨y0, y1, y2, y3, y4, y5, rfl⟩ := list6 (show xs.length = 6 from hlen)
  have t0 := hfl 0 _ rfl
  have t1 := hfl 1 _ rfl
  have t2 := hfl 2 _ rfl
  have t3 := hfl 3 _ rfl
  have t4 := hfl 4 _ rfl
  have t5 := hfl 5 _ rfl
  simp [Value.cells, cells8, cells16, cells32] at t0 t1 t2 t3 t4 t5
  obtain ⟨a0, e0, rfl, w0⟩ := DataW.trod_int Try.underlying5 t0
  obtain ⟨a1, e1, rfl, w1⟩ := DataW.trod_int Try.underlying5 t1
  obtain ⟨a2, e2, rfl, w2⟩ := DataW.trod_int Try.underlying22 t2
  obtain ⟨a3, e3, rfl, w3⟩ := DataW.trod_int Try.underlying5 t3
  obtain ⟨a4, e4, rfl, w4⟩ := DataW.trod_int Try.underlying5 t4
  obtain ⟨a5, e5, rfl, w5⟩ := DataW.trod_int Try.underlying23 t5
  simp only [List.cons.injEq, and_true] at e0 e1 e2 e3 e4 e5
  subst e0 e1 e2 e3 e4 e5
  simp only [Prod.mk.injEq] at hx
  exact ⟨a0, a1, a2, a3, a4, a5, rfl, hx.1, hx.2, w0, w1, w2, w3, w4, w5⟩
theorem shut_frame {H : Type} {enc : TypeId × Value → H} {w : World} {base : Nat} {spare : Nat → Bool} {held : Bool} {a0 a1 a2 a3 a4 a5 : Int}
    (w0 : (Lit.int .u8 a0).wf = true) (w1 : (Lit.int .u8 a1).wf = true) (w2 : (Lit.int .u16 a2).wf = true) (w3 : (Lit.int .u8 a3).wf = true) (w4 : (Lit.int .u8 a4).wf = true) (w5 : (Lit.int .u32 a5).wf = true) :
    DataW.Trod enc Try.prog w base spare held 25 (.agg #[.int .u8 a0, .int .u8 a1, .int .u16 a2, .int .u8 a3, .int .u8 a4, .int .u32 a5]) (.agg [.lit (.int .u8 a0), .lit (.int .u8 a1), .lit (.int .u16 a2), .lit (.int .u8 a3), .lit (.int .u8 a4), .lit (.int .u32 a5)]) [] := by
  have e8 : ∀ a : Int, (Lit.int .u8 a).wf = true → DataW.trod enc Try.prog w base spare held 1 5 [.int .u8 a] = some (.lit (.int .u8 a), []) := fun a h => by simp [DataW.trod, Try.underlying5, h]
  have e16 : ∀ a : Int, (Lit.int .u16 a).wf = true → DataW.trod enc Try.prog w base spare held 1 22 [.int .u16 a] = some (.lit (.int .u16 a), []) := fun a h => by simp [DataW.trod, Try.underlying22, h]
  have e32 : ∀ a : Int, (Lit.int .u32 a).wf = true → DataW.trod enc Try.prog w base spare held 1 23 [.int .u32 a] = some (.lit (.int .u32 a), []) := fun a h => by simp [DataW.trod, Try.underlying23, h]
  have := trod_struct_mk (enc := enc) (w := w) (base := base) (spare := spare) (held := held) (n := 1) (cs := [.int .u8 a0, .int .u8 a1, .int .u16 a2, .int .u8 a3, .int .u8 a4, .int .u32 a5]) (xs := [(.lit (.int .u8 a0), []), (.lit (.int .u8 a1), []), (.lit (.int .u16 a2), []), (.lit (.int .u8 a3), []), (.lit (.int .u8 a4), []), (.lit (.int .u32 a5), [])]) Try.underlying25 (by rw [cellsF]; rfl)
    (by simp [cells8, cells16, cells32, e8, e16, e32, w0, w1, w2, w3, w4, w5])
  exact ⟨_, by simpa [Value.cells] using this⟩
end Go.Proofs.Ytmllgbgcageccaa
