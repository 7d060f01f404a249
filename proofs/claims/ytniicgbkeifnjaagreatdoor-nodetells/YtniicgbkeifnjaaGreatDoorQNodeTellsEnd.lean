/-
  The law NodeTells, over its arguments as they come in. Conditions: the table behind masks lies as its initialiser lays it.
-/
import Derived.Test.YtniicgbkeifnjaaGreatDoorQNodeTellsWalk
namespace Go.Proofs.YtniicgbkeifnjaaGreatDoor.Nd
open Go.ChangeShapes Go.WideShapes Go.ChangeAt Go.RowKit
theorem nodeTells_all (w : World) (hT : M.Tab w) (a : Option Addr) (n c : Nat) (l : List Nat) (ho : Octs w a n l) (z0 : Int) (w0 : (Lit.int .u8 z0).wf = true) (z1 : Int) (w1 : (Lit.int .u8 z1).wf = true) (z2 : Int) (w2 : (Lit.int .u16 z2).wf = true) (z3 : Int) (w3 : (Lit.int .u8 z3).wf = true) (z4 : Int) (w4 : (Lit.int .u8 z4).wf = true) :
    Calls Tryz.prog 4 #[.slice a n c, .int .u8 z0, .int .u8 z1, .int .u16 z2, .int .u8 z3, .int .u8 z4] w fun e w' => e = .returned (.bool true) ∧ Below w.heap.size w w' := by
  obtain ⟨m0, rfl, h0⟩ := nat_u8 w0
  obtain ⟨m1, rfl, h1⟩ := nat_u8 w1
  obtain ⟨m2, rfl, h2⟩ := nat_u16 w2
  obtain ⟨m3, rfl, h3⟩ := nat_u8 w3
  obtain ⟨m4, rfl, h4⟩ := nat_u8 w4
  exact nodeTells_any w hT ho m0 m1 m2 m3 m4 h0 h1 h2 h3 h4
end Go.Proofs.YtniicgbkeifnjaaGreatDoor.Nd
