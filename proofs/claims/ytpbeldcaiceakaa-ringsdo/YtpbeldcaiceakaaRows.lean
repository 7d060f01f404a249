/-
  No cell of these rows narrows 'for every input' (looked for: loops, veiled, ifaces, maps, wideKeys, modest, calm, conditions, laid).
  DERIVED. THE GIVEN ROWS OF THIS SEAT. 5 by the template 'for every input the law returns true; each argument reads behind the call as it read before'; 0 by the template 'total and deterministic' (their statements: YtpbeldcaiceakaaTotals.lean).
  GIVEN WITH THE SEED: the statements are not yours to turn. If you find one false, say at which input.
  Laid BY PROGRAM, IN A SANDBOX (cutbox-rows.mjs): the forced cells as the released guide's own fill.sh prints them over the translation 6b694e6e631bd9e6… (all of the seat's roots in one cut). By AI agents, Wed Nov 11 2026. No macro, syntax, notation, axiom, sorry.
-/
import Derived.Test.YtpbeldcaiceakaaChecked
import GoSem.Claim
import GoSem.ClaimJoined
import GoSem.ClaimMapViews
import Derived.JoinedTies
import Derived.KernelRfl
namespace Go.Proofs.Ytpbeldcaiceakaa
/- THE CELL 'sum', in the pinned program and in every row, IS THE sha256 OF THE DUMP (.gsa) THAT YtpbeldcaiceakaaProg.lean LOADS. Nothing in Lean hashes anything: it is a label: what it is worth is what the hold of that sum in a sandbox is worth. -/
noncomputable def Try.pinned : Pinned := { name := "ytpbeldcaiceakaa", sum := "6b694e6e631bd9e6f0c7dd215d2d2d5acf7b0302749a6350097e2931bf89396d", checked := Try.checked }
namespace Rows
def none {H : Type} : Left H := { results := [], args := [] }

/-- 'shunterlaw08.RingsNew': WHATEVER THE INPUT: true; the input reads as it did. -/
def ringsNewSpec : ChangeSpec := { name := "ringsNew", fn := fun _ => fun
  | [d1, d2, d3] => { results := [.lit (.bool true)], args := [d1, d2, d3] }
  | _ => none }
def ringsNewRow : OpenClaim := { program := "ytpbeldcaiceakaa", sum := "6b694e6e631bd9e6f0c7dd215d2d2d5acf7b0302749a6350097e2931bf89396d", func := "shunter/shunterlaw08.RingsNew", spec := "ringsNew", plainKeys := false, apart := false }
def RingsNewSaid : Prop := ringsNewRow.holds Try.pinned (OpenSpec.ofChange ringsNewSpec)

/-- ITS FALSE NEIGHBOUR: 'it returns false'. Refute it at one input. -/
def ringsNewWrong : ChangeSpec := { name := "ringsNew", fn := fun _ => fun
  | [d1, d2, d3] => { results := [.lit (.bool false)], args := [d1, d2, d3] }
  | _ => none }
def RingsNewWrongFalsely : Prop := ringsNewRow.holds Try.pinned (OpenSpec.ofChange ringsNewWrong)

/-- 'shunterlaw08.RingsHead': WHATEVER THE INPUT: true; the input reads as it did. -/
def ringsHeadSpec : ChangeSpec := { name := "ringsHead", fn := fun _ => fun
  | [d1, d2, d3, d4] => { results := [.lit (.bool true)], args := [d1, d2, d3, d4] }
  | _ => none }
def ringsHeadRow : OpenClaim := { program := "ytpbeldcaiceakaa", sum := "6b694e6e631bd9e6f0c7dd215d2d2d5acf7b0302749a6350097e2931bf89396d", func := "shunter/shunterlaw08.RingsHead", spec := "ringsHead", plainKeys := false, apart := false }
def RingsHeadSaid : Prop := ringsHeadRow.holds Try.pinned (OpenSpec.ofChange ringsHeadSpec)

/-- ITS FALSE NEIGHBOUR: 'it returns false'. Refute it at one input. -/
def ringsHeadWrong : ChangeSpec := { name := "ringsHead", fn := fun _ => fun
  | [d1, d2, d3, d4] => { results := [.lit (.bool false)], args := [d1, d2, d3, d4] }
  | _ => none }
def RingsHeadWrongFalsely : Prop := ringsHeadRow.holds Try.pinned (OpenSpec.ofChange ringsHeadWrong)

/-- 'shunterlaw08.RingsDo': WHATEVER THE INPUT: true; the input reads as it did. -/
def ringsDoSpec : ChangeSpec := { name := "ringsDo", fn := fun _ => fun
  | [d1, d2, d3, d4] => { results := [.lit (.bool true)], args := [d1, d2, d3, d4] }
  | _ => none }
def ringsDoRow : OpenClaim := { program := "ytpbeldcaiceakaa", sum := "6b694e6e631bd9e6f0c7dd215d2d2d5acf7b0302749a6350097e2931bf89396d", func := "shunter/shunterlaw08.RingsDo", spec := "ringsDo", plainKeys := false, apart := false }
def RingsDoSaid : Prop := ringsDoRow.holds Try.pinned (OpenSpec.ofChange ringsDoSpec)

/-- ITS FALSE NEIGHBOUR: 'it returns false'. Refute it at one input. -/
def ringsDoWrong : ChangeSpec := { name := "ringsDo", fn := fun _ => fun
  | [d1, d2, d3, d4] => { results := [.lit (.bool false)], args := [d1, d2, d3, d4] }
  | _ => none }
def RingsDoWrongFalsely : Prop := ringsDoRow.holds Try.pinned (OpenSpec.ofChange ringsDoWrong)

/-- 'shunterlaw08.RingsOrder': WHATEVER THE INPUT: true; the input reads as it did. -/
def ringsOrderSpec : ChangeSpec := { name := "ringsOrder", fn := fun _ => fun
  | [d1, d2] => { results := [.lit (.bool true)], args := [d1, d2] }
  | _ => none }
def ringsOrderRow : OpenClaim := { program := "ytpbeldcaiceakaa", sum := "6b694e6e631bd9e6f0c7dd215d2d2d5acf7b0302749a6350097e2931bf89396d", func := "shunter/shunterlaw08.RingsOrder", spec := "ringsOrder", plainKeys := false, apart := false }
def RingsOrderSaid : Prop := ringsOrderRow.holds Try.pinned (OpenSpec.ofChange ringsOrderSpec)

/-- ITS FALSE NEIGHBOUR: 'it returns false'. Refute it at one input. -/
def ringsOrderWrong : ChangeSpec := { name := "ringsOrder", fn := fun _ => fun
  | [d1, d2] => { results := [.lit (.bool false)], args := [d1, d2] }
  | _ => none }
def RingsOrderWrongFalsely : Prop := ringsOrderRow.holds Try.pinned (OpenSpec.ofChange ringsOrderWrong)

/-- 'shunterlaw08.RingsRoom': WHATEVER THE INPUT: true; the input reads as it did. -/
def ringsRoomSpec : ChangeSpec := { name := "ringsRoom", fn := fun _ => fun
  | [d1, d2] => { results := [.lit (.bool true)], args := [d1, d2] }
  | _ => none }
def ringsRoomRow : OpenClaim := { program := "ytpbeldcaiceakaa", sum := "6b694e6e631bd9e6f0c7dd215d2d2d5acf7b0302749a6350097e2931bf89396d", func := "shunter/shunterlaw08.RingsRoom", spec := "ringsRoom", plainKeys := false, apart := false }
def RingsRoomSaid : Prop := ringsRoomRow.holds Try.pinned (OpenSpec.ofChange ringsRoomSpec)

/-- ITS FALSE NEIGHBOUR: 'it returns false'. Refute it at one input. -/
def ringsRoomWrong : ChangeSpec := { name := "ringsRoom", fn := fun _ => fun
  | [d1, d2] => { results := [.lit (.bool false)], args := [d1, d2] }
  | _ => none }
def RingsRoomWrongFalsely : Prop := ringsRoomRow.holds Try.pinned (OpenSpec.ofChange ringsRoomWrong)

/- THE SECOND FORM. 'bulk': how many values and letters a reading holds, each counted each time it is reached (what is shared counts as often as it is met; a slice's spare places count too). A statement '..UptoSaid' is the law's where the arguments, and the package variables that the reading takes, are together of bulk at most 1048576: NARROWER than '..Said'. Prove '..Said' where nothing that the law and all that it calls make is longer than what came in: it says more and counts as full. Else prove '..UptoSaid'. A law counts once. -/
mutual
def uptoBulk {H : Type} : DataW H → Nat
  | .lit (.string bytes) => bytes.length + 1
  | .lit _ => 1
  | .nil => 1
  | .ptr d => uptoBulk d + 1
  | .slice elems spare => uptoBulkAll elems + uptoBulkAll spare + 1
  | .agg parts => uptoBulkAll parts + 1
  | .iface _ d => uptoBulk d + 1
  | .map entries => uptoBulkEntries entries + 1
  | .held _ => 1
def uptoBulkAll {H : Type} : List (DataW H) → Nat
  | [] => 0
  | d :: r => uptoBulk d + uptoBulkAll r
def uptoBulkEntries {H : Type} : List (Lit × DataW H) → Nat
  | [] => 0
  | x :: r => uptoBulkEntry x + uptoBulkEntries r
def uptoBulkEntry {H : Type} : Lit × DataW H → Nat
  | (.string bytes, d) => bytes.length + uptoBulk d + 1
  | (_, d) => uptoBulk d + 1
 end
def uptoSmall : (H : Type) → List (DataW H) → Bool := fun _ ds => decide (uptoBulkAll ds ≤ 1048576)
def OpenSpec.upto (s : _root_.Go.ChangeSpec) : _root_.Go.OpenSpec := { _root_.Go.OpenSpec.ofChange s with cond := some uptoSmall }

/-- 'shunterlaw08.RingsNew', WHERE WHAT IT READS IS OF BULK AT MOST 1048576: true; the input reads as it did. -/
def ringsNewUptoRow : OpenClaim := { program := "ytpbeldcaiceakaa", sum := "6b694e6e631bd9e6f0c7dd215d2d2d5acf7b0302749a6350097e2931bf89396d", func := "shunter/shunterlaw08.RingsNew", spec := "ringsNew", plainKeys := false, apart := false, narrowed := true }
def RingsNewUptoSaid : Prop := ringsNewUptoRow.holds Try.pinned (OpenSpec.upto ringsNewSpec)

/-- 'shunterlaw08.RingsHead', WHERE WHAT IT READS IS OF BULK AT MOST 1048576: true; the input reads as it did. -/
def ringsHeadUptoRow : OpenClaim := { program := "ytpbeldcaiceakaa", sum := "6b694e6e631bd9e6f0c7dd215d2d2d5acf7b0302749a6350097e2931bf89396d", func := "shunter/shunterlaw08.RingsHead", spec := "ringsHead", plainKeys := false, apart := false, narrowed := true }
def RingsHeadUptoSaid : Prop := ringsHeadUptoRow.holds Try.pinned (OpenSpec.upto ringsHeadSpec)

/-- 'shunterlaw08.RingsDo', WHERE WHAT IT READS IS OF BULK AT MOST 1048576: true; the input reads as it did. -/
def ringsDoUptoRow : OpenClaim := { program := "ytpbeldcaiceakaa", sum := "6b694e6e631bd9e6f0c7dd215d2d2d5acf7b0302749a6350097e2931bf89396d", func := "shunter/shunterlaw08.RingsDo", spec := "ringsDo", plainKeys := false, apart := false, narrowed := true }
def RingsDoUptoSaid : Prop := ringsDoUptoRow.holds Try.pinned (OpenSpec.upto ringsDoSpec)

/-- 'shunterlaw08.RingsOrder', WHERE WHAT IT READS IS OF BULK AT MOST 1048576: true; the input reads as it did. -/
def ringsOrderUptoRow : OpenClaim := { program := "ytpbeldcaiceakaa", sum := "6b694e6e631bd9e6f0c7dd215d2d2d5acf7b0302749a6350097e2931bf89396d", func := "shunter/shunterlaw08.RingsOrder", spec := "ringsOrder", plainKeys := false, apart := false, narrowed := true }
def RingsOrderUptoSaid : Prop := ringsOrderUptoRow.holds Try.pinned (OpenSpec.upto ringsOrderSpec)

/-- 'shunterlaw08.RingsRoom', WHERE WHAT IT READS IS OF BULK AT MOST 1048576: true; the input reads as it did. -/
def ringsRoomUptoRow : OpenClaim := { program := "ytpbeldcaiceakaa", sum := "6b694e6e631bd9e6f0c7dd215d2d2d5acf7b0302749a6350097e2931bf89396d", func := "shunter/shunterlaw08.RingsRoom", spec := "ringsRoom", plainKeys := false, apart := false, narrowed := true }
def RingsRoomUptoSaid : Prop := ringsRoomUptoRow.holds Try.pinned (OpenSpec.upto ringsRoomSpec)

end Rows
end Go.Proofs.Ytpbeldcaiceakaa
