/-
  A plan as an argument that came in. Conditions: none.
-/
import Derived.Test.YtipdcpekepiphaaTreeSpec
import Derived.Test.YtipdcpekepiphaaPlanArg
namespace Go.Proofs.Ytipdcpekepiphaa
open Go.ChangeShapes Go.WideShapes Go.ChangeAt Go.RowKit
set_option linter.unusedVariables false

theorem argp_of {w : World} {p : PV} {es : List (Int × Int)} {ws : List Int} {ns : List Nat} (h : Pl w p es ws ns) (he : p.ea = none → p.ec = 0) (hw : p.wa = none → p.wc = 0) (hn : p.na = none → p.nc = 0) : ArgP w p es ws ns :=
  ⟨h, fun e => ⟨by have := h.ec.1; have := he e; omega, he e⟩, fun e => ⟨by have := h.wc.1; have := hw e; omega, hw e⟩, fun e => ⟨by have := h.nc.1; have := hn e; omega, hn e⟩⟩
end Go.Proofs.Ytipdcpekepiphaa
