/-
  What holds of all trees of at most five parents, and of any two nodes of theirs: by going through all of them. Conditions: none.
-/
import Derived.Test.YtphaaolnmbadcaaTreeMath
namespace Go.Proofs.Ytphaaolnmbadcaa.Tree
set_option linter.unusedVariables false

def q_ends (ps : List Int) (v w : Nat) : Bool := decide ((path ps v w).length ≤ 6) && decide (0 < (path ps v w).length) && (path ps v w).getD 0 0 == (v : Int) && (path ps v w).getD ((path ps v w).length - 1) 0 == (w : Int) && ((path ps v w).all fun x => isNode ps x) && (path ps w v == (path ps v w).reverse) && (decide (v = w) || decide (2 ≤ (path ps v w).length))
theorem ends_all : ask2 q_ends = true := by decide +kernel
/-- from each node of a path on the rest is its path, and so far -/
def q_parts (ps : List Int) (v w : Nat) : Bool := (List.range (path ps v w).length).all fun i => (path ps ((path ps v w).getD i 0).toNat w == (path ps v w).drop i) && (path ps v ((path ps v w).getD i 0).toNat == (path ps v w).take (i + 1))
theorem parts_all : ask2 q_parts = true := by decide +kernel
/-- a path goes by edges, and has no node twice -/
def q_ways (ps : List Int) (v w : Nat) : Bool := decide (path ps v w).Nodup && ((List.range (path ps v w).length).all fun i => decide (i = 0) || decide (((path ps v w).getD (i - 1) 0, (path ps v w).getD i 0) ∈ edges ps) || decide (((path ps v w).getD i 0, (path ps v w).getD (i - 1) 0) ∈ edges ps))
theorem ways_all : ask2 q_ways = true := by decide +kernel
end Go.Proofs.Ytphaaolnmbadcaa.Tree
