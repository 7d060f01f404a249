/-
  The law NodeInjects, over its arguments as they come in. Conditions: the table behind masks lies as its initialiser lays it.
-/
import Derived.Test.YtniicgbkeifnjaaGreatDoorQNodeInjectsWalk
import Derived.Test.YtniicgbkeifnjaaGreatDoorQ47
namespace Go.Proofs.YtniicgbkeifnjaaGreatDoor.Nd
open Go.ChangeShapes Go.WideShapes Go.ChangeAt Go.RowKit
theorem nodeInjects_all (w : World) (hT : M.Tab w) (a : Option Addr) (n c : Nat) (l : List Nat) (ho : Octs w a n l) (z0 : Int) (w0 : (Lit.int .u8 z0).wf = true) (z1 : Int) (w1 : (Lit.int .u8 z1).wf = true) (z2 : Int) (w2 : (Lit.int .u8 z2).wf = true) (x : Pk) (hx : 0 ≤ x.b ∧ x.b < 4294967296) :
    Calls Tryz.prog 3 #[.slice a n c, .int .u8 z0, .int .u8 z1, .int .u8 z2, .agg #[.int .i64 x.s, .int .i64 x.d, .int .i64 x.l, .int .u32 x.b]] w fun e w' => e = .returned (.bool true) ∧ Below w.heap.size w w' := by
  obtain ⟨m0, rfl, h0⟩ := nat_u8 w0
  obtain ⟨m1, rfl, h1⟩ := nat_u8 w1
  obtain ⟨m2, rfl, h2⟩ := nat_u8 w2
  exact nodeInjects_any w hT ho m0 m1 m2 h0 h1 h2 x hx
end Go.Proofs.YtniicgbkeifnjaaGreatDoor.Nd
