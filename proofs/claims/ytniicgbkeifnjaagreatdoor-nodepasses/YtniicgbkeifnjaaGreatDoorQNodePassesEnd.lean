/-
  The law NodePasses, over its arguments as they come in. Conditions: the table behind masks lies as its initialiser lays it.
-/
import Derived.Test.YtniicgbkeifnjaaGreatDoorQNodePassesWalk
import Derived.Test.YtniicgbkeifnjaaGreatDoorQ47
namespace Go.Proofs.YtniicgbkeifnjaaGreatDoor.Nd
open Go.ChangeShapes Go.WideShapes Go.ChangeAt Go.RowKit
theorem nodePasses_all (w : World) (hT : M.Tab w) (z0 : Int) (w0 : (Lit.int .u8 z0).wf = true) (z1 : Int) (w1 : (Lit.int .u16 z1).wf = true) (a : Option Addr) (n c : Nat) (us : List Int) (ho : Us w a n us ∧ ∀ x ∈ us, 0 ≤ x ∧ x < 4294967296) :
    Calls Tryz.prog 8 #[.int .u8 z0, .int .u16 z1, .slice a n c] w fun e w' => e = .returned (.bool true) ∧ Below w.heap.size w w' := by
  obtain ⟨m0, rfl, h0⟩ := nat_u8 w0
  obtain ⟨m1, rfl, h1⟩ := nat_u16 w1
  exact nodePasses_any w hT m0 m1 h0 h1 ho.1 ho.2
end Go.Proofs.YtniicgbkeifnjaaGreatDoor.Nd
