/-
  DERIVED. GIVEN WITH THE SEED: THE CARDS: each row of YtniicgbkeifnjaaGreatDoorRows.lean that lists a variable, with what it lists TIED to the program's text (the seventh form; the later family's looks); each row that meets fmt, with fmt's text TOLD by the authors' own Lean function (tested against real Go, not proved from fmt's source: count such statements apart). THE CARD IS WHAT COUNTS. Prove the row's statement (the work); the ties are given (YtniicgbkeifnjaaGreatDoorTie.lean); close each card by the builder's one call (the guide's Derived/Test/ToyasCard.lean, 'card_holds'). Laid BY PROGRAM, IN A SANDBOX (cutbox-door.mjs). By AI agents, Wed Nov 11 2026. No macro, syntax, notation, axiom, sorry.
-/
import Derived.Test.YtniicgbkeifnjaaGreatDoorRows
import GoSem.ClaimSeven
namespace Go.Proofs.YtniicgbkeifnjaaGreatDoor
namespace Rows

/-- THE TIED CARD OF 'shunterlaw16.NodeInjects'. -/
def nodeInjectsCard : Claim7 := { stood := { row := nodeInjectsRow, standIns := [], harness := (true, "315c8c6e4583ccaf60de8633db9a068268e580a6cc81570f98c984e37a0037f7"), looks := false }, kinds := [], alts := [], laidByText := true, laidKinds := [.data], laidTests := true, laidLooks := .later }
def NodeInjectsCardSaid : Prop := Claim7.holds Tryz.pinned (.plain (OpenSpec.ofChange nodeInjectsSpec)) nodeInjectsCard

/-- THE TIED CARD OF 'shunterlaw16.NodeTells'. -/
def nodeTellsCard : Claim7 := { stood := { row := nodeTellsRow, standIns := [], harness := (true, "315c8c6e4583ccaf60de8633db9a068268e580a6cc81570f98c984e37a0037f7"), looks := false }, kinds := [], alts := [], laidByText := true, laidKinds := [.data], laidTests := true, laidLooks := .later }
def NodeTellsCardSaid : Prop := Claim7.holds Tryz.pinned (.plain (OpenSpec.ofChange nodeTellsSpec)) nodeTellsCard

/-- THE TIED CARD OF 'shunterlaw16.NodeDoes'. -/
def nodeDoesCard : Claim7 := { stood := { row := nodeDoesRow, standIns := [], harness := (true, "315c8c6e4583ccaf60de8633db9a068268e580a6cc81570f98c984e37a0037f7"), looks := false }, kinds := [], alts := [], laidByText := true, laidKinds := [.data], laidTests := true, laidLooks := .later }
def NodeDoesCardSaid : Prop := Claim7.holds Tryz.pinned (.plain (OpenSpec.ofChange nodeDoesSpec)) nodeDoesCard

/-- THE TIED CARD OF 'shunterlaw16.NodePlans'. -/
def nodePlansCard : Claim7 := { stood := { row := nodePlansRow, standIns := [], harness := (true, "315c8c6e4583ccaf60de8633db9a068268e580a6cc81570f98c984e37a0037f7"), looks := false }, kinds := [], alts := [], laidByText := true, laidKinds := [.data], laidTests := true, laidLooks := .later }
def NodePlansCardSaid : Prop := Claim7.holds Tryz.pinned (.plain (OpenSpec.ofChange nodePlansSpec)) nodePlansCard

/-- THE TIED CARD OF 'shunterlaw16.NodeBounds'. -/
def nodeBoundsCard : Claim7 := { stood := { row := nodeBoundsRow, standIns := [], harness := (true, "315c8c6e4583ccaf60de8633db9a068268e580a6cc81570f98c984e37a0037f7"), looks := false }, kinds := [], alts := [], laidByText := true, laidKinds := [.data], laidTests := true, laidLooks := .later }
def NodeBoundsCardSaid : Prop := Claim7.holds Tryz.pinned (.plain (OpenSpec.ofChange nodeBoundsSpec)) nodeBoundsCard

/-- THE TIED CARD OF 'shunterlaw16.NodePasses'. -/
def nodePassesCard : Claim7 := { stood := { row := nodePassesRow, standIns := [], harness := (true, "315c8c6e4583ccaf60de8633db9a068268e580a6cc81570f98c984e37a0037f7"), looks := false }, kinds := [], alts := [], laidByText := true, laidKinds := [.data], laidTests := true, laidLooks := .later }
def NodePassesCardSaid : Prop := Claim7.holds Tryz.pinned (.plain (OpenSpec.ofChange nodePassesSpec)) nodePassesCard

/-- THE TIED CARD OF 'shunterlaw16.NodeRefuses'. -/
def nodeRefusesCard : Claim7 := { stood := { row := nodeRefusesRow, standIns := [], harness := (true, "315c8c6e4583ccaf60de8633db9a068268e580a6cc81570f98c984e37a0037f7"), looks := false }, kinds := [], alts := [], laidByText := true, laidKinds := [.data], laidTests := true, laidLooks := .later }
def NodeRefusesCardSaid : Prop := Claim7.holds Tryz.pinned (.plain (OpenSpec.ofChange nodeRefusesSpec)) nodeRefusesCard

/-- THE SECOND FORM's CARD OF 'shunterlaw16.NodeInjects'. -/
def nodeInjectsUptoCard : Claim7 := { stood := { row := nodeInjectsUptoRow, standIns := [], harness := (true, "315c8c6e4583ccaf60de8633db9a068268e580a6cc81570f98c984e37a0037f7"), looks := false }, kinds := [], alts := [], laidByText := true, laidKinds := [.data], laidTests := true, laidLooks := .later }
def NodeInjectsUptoCardSaid : Prop := Claim7.holds Tryz.pinned (.plain (OpenSpec.upto nodeInjectsSpec)) nodeInjectsUptoCard

/-- THE SECOND FORM's CARD OF 'shunterlaw16.NodeTells'. -/
def nodeTellsUptoCard : Claim7 := { stood := { row := nodeTellsUptoRow, standIns := [], harness := (true, "315c8c6e4583ccaf60de8633db9a068268e580a6cc81570f98c984e37a0037f7"), looks := false }, kinds := [], alts := [], laidByText := true, laidKinds := [.data], laidTests := true, laidLooks := .later }
def NodeTellsUptoCardSaid : Prop := Claim7.holds Tryz.pinned (.plain (OpenSpec.upto nodeTellsSpec)) nodeTellsUptoCard

/-- THE SECOND FORM's CARD OF 'shunterlaw16.NodeDoes'. -/
def nodeDoesUptoCard : Claim7 := { stood := { row := nodeDoesUptoRow, standIns := [], harness := (true, "315c8c6e4583ccaf60de8633db9a068268e580a6cc81570f98c984e37a0037f7"), looks := false }, kinds := [], alts := [], laidByText := true, laidKinds := [.data], laidTests := true, laidLooks := .later }
def NodeDoesUptoCardSaid : Prop := Claim7.holds Tryz.pinned (.plain (OpenSpec.upto nodeDoesSpec)) nodeDoesUptoCard

/-- THE SECOND FORM's CARD OF 'shunterlaw16.NodePlans'. -/
def nodePlansUptoCard : Claim7 := { stood := { row := nodePlansUptoRow, standIns := [], harness := (true, "315c8c6e4583ccaf60de8633db9a068268e580a6cc81570f98c984e37a0037f7"), looks := false }, kinds := [], alts := [], laidByText := true, laidKinds := [.data], laidTests := true, laidLooks := .later }
def NodePlansUptoCardSaid : Prop := Claim7.holds Tryz.pinned (.plain (OpenSpec.upto nodePlansSpec)) nodePlansUptoCard

/-- THE SECOND FORM's CARD OF 'shunterlaw16.NodeBounds'. -/
def nodeBoundsUptoCard : Claim7 := { stood := { row := nodeBoundsUptoRow, standIns := [], harness := (true, "315c8c6e4583ccaf60de8633db9a068268e580a6cc81570f98c984e37a0037f7"), looks := false }, kinds := [], alts := [], laidByText := true, laidKinds := [.data], laidTests := true, laidLooks := .later }
def NodeBoundsUptoCardSaid : Prop := Claim7.holds Tryz.pinned (.plain (OpenSpec.upto nodeBoundsSpec)) nodeBoundsUptoCard

/-- THE SECOND FORM's CARD OF 'shunterlaw16.NodePasses'. -/
def nodePassesUptoCard : Claim7 := { stood := { row := nodePassesUptoRow, standIns := [], harness := (true, "315c8c6e4583ccaf60de8633db9a068268e580a6cc81570f98c984e37a0037f7"), looks := false }, kinds := [], alts := [], laidByText := true, laidKinds := [.data], laidTests := true, laidLooks := .later }
def NodePassesUptoCardSaid : Prop := Claim7.holds Tryz.pinned (.plain (OpenSpec.upto nodePassesSpec)) nodePassesUptoCard

/-- THE SECOND FORM's CARD OF 'shunterlaw16.NodeRefuses'. -/
def nodeRefusesUptoCard : Claim7 := { stood := { row := nodeRefusesUptoRow, standIns := [], harness := (true, "315c8c6e4583ccaf60de8633db9a068268e580a6cc81570f98c984e37a0037f7"), looks := false }, kinds := [], alts := [], laidByText := true, laidKinds := [.data], laidTests := true, laidLooks := .later }
def NodeRefusesUptoCardSaid : Prop := Claim7.holds Tryz.pinned (.plain (OpenSpec.upto nodeRefusesSpec)) nodeRefusesUptoCard
end Rows
end Go.Proofs.YtniicgbkeifnjaaGreatDoor
