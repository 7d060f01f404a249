/-
  No cell of these rows narrows 'for every input' (looked for: loops, veiled, ifaces, maps, wideKeys, modest, calm, conditions, laid).
  DERIVED. THE GIVEN ROWS OF THIS SEAT. 6 by the template 'for every input the law returns true; each argument reads behind the call as it read before'; 0 by the template 'total and deterministic' (their statements: YtiikjlohfbaedaaTotals.lean).
  GIVEN WITH THE SEED: the statements are not yours to turn. If you find one false, say at which input.
  Laid BY PROGRAM, IN A SANDBOX (cutbox-rows.mjs): the forced cells as the released guide's own fill.sh prints them over the translation 46dc0bba026025a7… (all of the seat's roots in one cut). By AI agents, Wed Nov 11 2026. No macro, syntax, notation, axiom, sorry.
-/
import Derived.Test.YtiikjlohfbaedaaChecked
import GoSem.Claim
import GoSem.ClaimJoined
import GoSem.ClaimMapViews
import Derived.JoinedTies
import Derived.KernelRfl
namespace Go.Proofs.Ytiikjlohfbaedaa
/- THE CELL 'sum', in the pinned program and in every row, IS THE sha256 OF THE DUMP (.gsa) THAT YtiikjlohfbaedaaProg.lean LOADS. Nothing in Lean hashes anything: it is a label: what it is worth is what the hold of that sum in a sandbox is worth. -/
noncomputable def Try.pinned : Pinned := { name := "ytiikjlohfbaedaa", sum := "46dc0bba026025a739ae19fefaf6937f80ab60559b06122a9d6a8e6323a855a9", checked := Try.checked }
namespace Rows
def none {H : Type} : Left H := { results := [], args := [] }

/-- 'shunterlaw12.PlanEdges': WHATEVER THE INPUT: true; the input reads as it did. -/
def planEdgesSpec : ChangeSpec := { name := "planEdges", fn := fun _ => fun
  | [d1, d2, d3, d4, d5] => { results := [.lit (.bool true)], args := [d1, d2, d3, d4, d5] }
  | _ => none }
def planEdgesRow : OpenClaim := { program := "ytiikjlohfbaedaa", sum := "46dc0bba026025a739ae19fefaf6937f80ab60559b06122a9d6a8e6323a855a9", func := "shunter/shunterlaw12.PlanEdges", spec := "planEdges", unfollowed := true, recurses := true, apart := false }
def PlanEdgesSaid : Prop := planEdgesRow.holds Try.pinned (OpenSpec.ofChange planEdgesSpec)

/-- ITS FALSE NEIGHBOUR: 'it returns false'. Refute it at one input. -/
def planEdgesWrong : ChangeSpec := { name := "planEdges", fn := fun _ => fun
  | [d1, d2, d3, d4, d5] => { results := [.lit (.bool false)], args := [d1, d2, d3, d4, d5] }
  | _ => none }
def PlanEdgesWrongFalsely : Prop := planEdgesRow.holds Try.pinned (OpenSpec.ofChange planEdgesWrong)

/-- 'shunterlaw12.PlanHops': WHATEVER THE INPUT: true; the input reads as it did. -/
def planHopsSpec : ChangeSpec := { name := "planHops", fn := fun _ => fun
  | [d1, d2] => { results := [.lit (.bool true)], args := [d1, d2] }
  | _ => none }
def planHopsRow : OpenClaim := { program := "ytiikjlohfbaedaa", sum := "46dc0bba026025a739ae19fefaf6937f80ab60559b06122a9d6a8e6323a855a9", func := "shunter/shunterlaw12.PlanHops", spec := "planHops", unfollowed := true, recurses := true, apart := false }
def PlanHopsSaid : Prop := planHopsRow.holds Try.pinned (OpenSpec.ofChange planHopsSpec)

/-- ITS FALSE NEIGHBOUR: 'it returns false'. Refute it at one input. -/
def planHopsWrong : ChangeSpec := { name := "planHops", fn := fun _ => fun
  | [d1, d2] => { results := [.lit (.bool false)], args := [d1, d2] }
  | _ => none }
def PlanHopsWrongFalsely : Prop := planHopsRow.holds Try.pinned (OpenSpec.ofChange planHopsWrong)

/-- 'shunterlaw12.PlanRows': WHATEVER THE INPUT: true; the input reads as it did. -/
def planRowsSpec : ChangeSpec := { name := "planRows", fn := fun _ => fun
  | [d1, d2, d3, d4, d5] => { results := [.lit (.bool true)], args := [d1, d2, d3, d4, d5] }
  | _ => none }
def planRowsRow : OpenClaim := { program := "ytiikjlohfbaedaa", sum := "46dc0bba026025a739ae19fefaf6937f80ab60559b06122a9d6a8e6323a855a9", func := "shunter/shunterlaw12.PlanRows", spec := "planRows", unfollowed := true, recurses := true, apart := false }
def PlanRowsSaid : Prop := planRowsRow.holds Try.pinned (OpenSpec.ofChange planRowsSpec)

/-- ITS FALSE NEIGHBOUR: 'it returns false'. Refute it at one input. -/
def planRowsWrong : ChangeSpec := { name := "planRows", fn := fun _ => fun
  | [d1, d2, d3, d4, d5] => { results := [.lit (.bool false)], args := [d1, d2, d3, d4, d5] }
  | _ => none }
def PlanRowsWrongFalsely : Prop := planRowsRow.holds Try.pinned (OpenSpec.ofChange planRowsWrong)

/-- 'shunterlaw12.PlanTells': WHATEVER THE INPUT: true; the input reads as it did. -/
def planTellsSpec : ChangeSpec := { name := "planTells", fn := fun _ => fun
  | [d1, d2, d3] => { results := [.lit (.bool true)], args := [d1, d2, d3] }
  | _ => none }
def planTellsRow : OpenClaim := { program := "ytiikjlohfbaedaa", sum := "46dc0bba026025a739ae19fefaf6937f80ab60559b06122a9d6a8e6323a855a9", func := "shunter/shunterlaw12.PlanTells", spec := "planTells", unfollowed := true, recurses := true, apart := false }
def PlanTellsSaid : Prop := planTellsRow.holds Try.pinned (OpenSpec.ofChange planTellsSpec)

/-- ITS FALSE NEIGHBOUR: 'it returns false'. Refute it at one input. -/
def planTellsWrong : ChangeSpec := { name := "planTells", fn := fun _ => fun
  | [d1, d2, d3] => { results := [.lit (.bool false)], args := [d1, d2, d3] }
  | _ => none }
def PlanTellsWrongFalsely : Prop := planTellsRow.holds Try.pinned (OpenSpec.ofChange planTellsWrong)

/-- 'shunterlaw12.PlanMakes': WHATEVER THE INPUT: true; the input reads as it did. -/
def planMakesSpec : ChangeSpec := { name := "planMakes", fn := fun _ => fun
  | [d1, d2, d3, d4, d5, d6, d7, d8] => { results := [.lit (.bool true)], args := [d1, d2, d3, d4, d5, d6, d7, d8] }
  | _ => none }
def planMakesRow : OpenClaim := { program := "ytiikjlohfbaedaa", sum := "46dc0bba026025a739ae19fefaf6937f80ab60559b06122a9d6a8e6323a855a9", func := "shunter/shunterlaw12.PlanMakes", spec := "planMakes", unfollowed := true, recurses := true, apart := false }
def PlanMakesSaid : Prop := planMakesRow.holds Try.pinned (OpenSpec.ofChange planMakesSpec)

/-- ITS FALSE NEIGHBOUR: 'it returns false'. Refute it at one input. -/
def planMakesWrong : ChangeSpec := { name := "planMakes", fn := fun _ => fun
  | [d1, d2, d3, d4, d5, d6, d7, d8] => { results := [.lit (.bool false)], args := [d1, d2, d3, d4, d5, d6, d7, d8] }
  | _ => none }
def PlanMakesWrongFalsely : Prop := planMakesRow.holds Try.pinned (OpenSpec.ofChange planMakesWrong)

/-- 'shunterlaw12.PlanBeside': WHATEVER THE INPUT: true; the input reads as it did. -/
def planBesideSpec : ChangeSpec := { name := "planBeside", fn := fun _ => fun
  | [d1, d2] => { results := [.lit (.bool true)], args := [d1, d2] }
  | _ => none }
def planBesideRow : OpenClaim := { program := "ytiikjlohfbaedaa", sum := "46dc0bba026025a739ae19fefaf6937f80ab60559b06122a9d6a8e6323a855a9", func := "shunter/shunterlaw12.PlanBeside", spec := "planBeside", unfollowed := true, recurses := true, apart := false }
def PlanBesideSaid : Prop := planBesideRow.holds Try.pinned (OpenSpec.ofChange planBesideSpec)

/-- ITS FALSE NEIGHBOUR: 'it returns false'. Refute it at one input. -/
def planBesideWrong : ChangeSpec := { name := "planBeside", fn := fun _ => fun
  | [d1, d2] => { results := [.lit (.bool false)], args := [d1, d2] }
  | _ => none }
def PlanBesideWrongFalsely : Prop := planBesideRow.holds Try.pinned (OpenSpec.ofChange planBesideWrong)

/- THE SECOND FORM. 'bulk': how many values and letters a reading holds, each counted each time it is reached (what is shared counts as often as it is met; a slice's spare places count too). A statement '..UptoSaid' is the law's where the arguments, and the package variables that the reading takes, are together of bulk at most 1048576: NARROWER than '..Said'. Prove '..Said' where nothing that the law and all that it calls make is longer than what came in: it says more and counts as full. Else prove '..UptoSaid'. A law counts once. -/
mutual
def uptoBulk {H : Type} : DataW H → Nat
  | .lit (.string bytes) => bytes.length + 1
  | .lit _ => 1
  | .nil => 1
  | .ptr d => uptoBulk d + 1
  | .slice elems spare => uptoBulkAll elems + uptoBulkAll spare + 1
  | .agg parts => uptoBulkAll parts + 1
  | .iface _ d => uptoBulk d + 1
  | .map entries => uptoBulkEntries entries + 1
  | .held _ => 1
def uptoBulkAll {H : Type} : List (DataW H) → Nat
  | [] => 0
  | d :: r => uptoBulk d + uptoBulkAll r
def uptoBulkEntries {H : Type} : List (Lit × DataW H) → Nat
  | [] => 0
  | x :: r => uptoBulkEntry x + uptoBulkEntries r
def uptoBulkEntry {H : Type} : Lit × DataW H → Nat
  | (.string bytes, d) => bytes.length + uptoBulk d + 1
  | (_, d) => uptoBulk d + 1
 end
def uptoSmall : (H : Type) → List (DataW H) → Bool := fun _ ds => decide (uptoBulkAll ds ≤ 1048576)
def OpenSpec.upto (s : _root_.Go.ChangeSpec) : _root_.Go.OpenSpec := { _root_.Go.OpenSpec.ofChange s with cond := some uptoSmall }

/-- 'shunterlaw12.PlanEdges', WHERE WHAT IT READS IS OF BULK AT MOST 1048576: true; the input reads as it did. -/
def planEdgesUptoRow : OpenClaim := { program := "ytiikjlohfbaedaa", sum := "46dc0bba026025a739ae19fefaf6937f80ab60559b06122a9d6a8e6323a855a9", func := "shunter/shunterlaw12.PlanEdges", spec := "planEdges", unfollowed := true, recurses := true, apart := false, narrowed := true }
def PlanEdgesUptoSaid : Prop := planEdgesUptoRow.holds Try.pinned (OpenSpec.upto planEdgesSpec)

/-- 'shunterlaw12.PlanHops', WHERE WHAT IT READS IS OF BULK AT MOST 1048576: true; the input reads as it did. -/
def planHopsUptoRow : OpenClaim := { program := "ytiikjlohfbaedaa", sum := "46dc0bba026025a739ae19fefaf6937f80ab60559b06122a9d6a8e6323a855a9", func := "shunter/shunterlaw12.PlanHops", spec := "planHops", unfollowed := true, recurses := true, apart := false, narrowed := true }
def PlanHopsUptoSaid : Prop := planHopsUptoRow.holds Try.pinned (OpenSpec.upto planHopsSpec)

/-- 'shunterlaw12.PlanRows', WHERE WHAT IT READS IS OF BULK AT MOST 1048576: true; the input reads as it did. -/
def planRowsUptoRow : OpenClaim := { program := "ytiikjlohfbaedaa", sum := "46dc0bba026025a739ae19fefaf6937f80ab60559b06122a9d6a8e6323a855a9", func := "shunter/shunterlaw12.PlanRows", spec := "planRows", unfollowed := true, recurses := true, apart := false, narrowed := true }
def PlanRowsUptoSaid : Prop := planRowsUptoRow.holds Try.pinned (OpenSpec.upto planRowsSpec)

/-- 'shunterlaw12.PlanTells', WHERE WHAT IT READS IS OF BULK AT MOST 1048576: true; the input reads as it did. -/
def planTellsUptoRow : OpenClaim := { program := "ytiikjlohfbaedaa", sum := "46dc0bba026025a739ae19fefaf6937f80ab60559b06122a9d6a8e6323a855a9", func := "shunter/shunterlaw12.PlanTells", spec := "planTells", unfollowed := true, recurses := true, apart := false, narrowed := true }
def PlanTellsUptoSaid : Prop := planTellsUptoRow.holds Try.pinned (OpenSpec.upto planTellsSpec)

/-- 'shunterlaw12.PlanMakes', WHERE WHAT IT READS IS OF BULK AT MOST 1048576: true; the input reads as it did. -/
def planMakesUptoRow : OpenClaim := { program := "ytiikjlohfbaedaa", sum := "46dc0bba026025a739ae19fefaf6937f80ab60559b06122a9d6a8e6323a855a9", func := "shunter/shunterlaw12.PlanMakes", spec := "planMakes", unfollowed := true, recurses := true, apart := false, narrowed := true }
def PlanMakesUptoSaid : Prop := planMakesUptoRow.holds Try.pinned (OpenSpec.upto planMakesSpec)

/-- 'shunterlaw12.PlanBeside', WHERE WHAT IT READS IS OF BULK AT MOST 1048576: true; the input reads as it did. -/
def planBesideUptoRow : OpenClaim := { program := "ytiikjlohfbaedaa", sum := "46dc0bba026025a739ae19fefaf6937f80ab60559b06122a9d6a8e6323a855a9", func := "shunter/shunterlaw12.PlanBeside", spec := "planBeside", unfollowed := true, recurses := true, apart := false, narrowed := true }
def PlanBesideUptoSaid : Prop := planBesideUptoRow.holds Try.pinned (OpenSpec.upto planBesideSpec)

end Rows
end Go.Proofs.Ytiikjlohfbaedaa
