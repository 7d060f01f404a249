/-
  A statement whose order Go leaves open, whose operations read what was there and whose callees make memory and write nothing that was there: one walk, in the text's order, serves every order (in a seat of whatever packages). Conditions: none.
-/
import Derived.Test.YtfldhjeeoaplfaaSans
import Derived.Deep.QuietTactic
import Derived.BigQuiet
namespace Go.Proofs.Ytfldhjeeoaplfaa
open Go.ChangeShapes Go.WideShapes Go.ChangeAt Go.RowKit
set_option linter.unusedVariables false

/-- a world in which all that was there in u is as it was -/
structure Since (u : World) where
  w : World
  h : Below u.heap.size u w
theorem Since.any (u : World) : Nonempty (Since u) := ⟨⟨u, Below.refl _ _⟩⟩
theorem Since.cell {u : World} (n : Since u) {b o : Nat} {v : Value} (h : u.cell? ⟨b, o, none⟩ = some v) : n.w.cell? ⟨b, o, none⟩ = some v :=
  (n.h.cell (p := ⟨b, o, none⟩) (cell_lt h)).trans h
theorem region_since {P : Program} {id : Nat} {Q : Exit → Act → World → Prop} {a : Act} {u w : World} {l : List Oper} (hm : P.follows .mixedOrders = true) (hB : Region.lexB .any l.toArray = true) (hw : Below u.heap.size u w)
    (h : wpQuiet P l.toArray (fun w' => ∃ n : Since u, w' = n.w) (fun a' => ∀ w', (∃ n : Since u, w' = n.w) → Q .normal a' w') l a) : (Code.region id l.toArray true).wp P Q a w :=
  wp_region_quiet (C := fun w' => ∃ n : Since u, w' = n.w) hm hB ⟨⟨w.drew, hw.drew⟩, rfl⟩ (by simpa using h)
/-- a callee that makes memory alone, met in such a world -/
theorem Since.calls {P : Program} {f : FuncId} {args : Array Value} {u : World} (n : Since u) {v : Value} (h : Calls P f args n.w fun e w' => e = .returned v ∧ Below n.w.heap.size n.w w') :
    Calls P f args n.w fun e w' => e = .returned v ∧ ∃ m : Since u, w' = m.w :=
  h.mono fun e w' ⟨he, hb⟩ => ⟨he, ⟨w', later n.h hb⟩, rfl⟩
end Go.Proofs.Ytfldhjeeoaplfaa
