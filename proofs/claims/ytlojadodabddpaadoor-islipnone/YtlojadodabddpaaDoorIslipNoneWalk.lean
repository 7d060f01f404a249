/-
  The law IslipNone of package shunterlaw10, at any rounds. Conditions: that the table of math/bits holds what its initialiser lays.
-/
import Derived.Test.YtlojadodabddpaaDoorIslNoneA
import Derived.Test.YtlojadodabddpaaDoorIslNoneB
import Derived.Test.YtlojadodabddpaaDoorIslNoneC
namespace Go.Proofs.YtlojadodabddpaaDoor
open Go.ChangeShapes Go.WideShapes Go.ChangeAt Go.RowKit
set_option linter.unusedVariables false

theorem islipNone_any (w : World) (hT : Tab w) (k0 : Int) (wk : (Lit.int .u8 k0).wf = true) (z : Int) (wz : (Lit.int .i64 z).wf = true) :
    Calls Tryd.prog 5 #[.int .u8 k0, .int .i64 z] w fun e w' => e = .returned (.bool true) ∧ Below w.heap.size w w' := by
  by_cases h1 : z < 1
  · exact islipNone_lo w hT k0 wk z wz h1
  · by_cases h2 : 16 < z
    · exact islipNone_hi w hT k0 wk z wz h2
    · exact islipNone_in w hT k0 wk z wz (by omega)
end Go.Proofs.YtlojadodabddpaaDoor
