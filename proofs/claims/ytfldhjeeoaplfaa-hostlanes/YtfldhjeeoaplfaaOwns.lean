/-
  Rows of the call's own (whatever they hold): what stays of them when other memory turns, a row cut short, footprints that grow; rows of numbers. Conditions: none.
-/
import Derived.Test.YtfldhjeeoaplfaaSans
import Derived.OwnWalk
import Derived.Deep.OwnRows
import Derived.BigQuiet
import Derived.Maps.AppendAt
namespace Go.Proofs.Ytfldhjeeoaplfaa
open Go.ChangeShapes Go.WideShapes Go.ChangeAt Go.RowKit
set_option linter.unusedVariables false

theorem owns_lift {w w' : World} {F : Nat → Prop} {base n size : Nat} {e : TypeId} {a : Option Addr} {cap : Nat} {xs : List Value} (h : w.ownsRow base e size (.slice a n cap) n xs) (k : Sans F w w') (hn : ∀ ad, a = some ad → ¬ F ad.block) : w'.ownsRow base e size (.slice a n cap) n xs := by
  refine ⟨h.1, ?_⟩
  rcases h.2 with h2 | ⟨g, cp, cur, e, hb, hg, r⟩
  · exact .inl h2
  · refine .inr ⟨g, cp, cur, e, hb, ?_, r⟩
    have ha : a = some ⟨g, 0, none⟩ := by simp only [Value.slice.injEq] at e; exact e.1
    have hlt : g < w.heap.size := by
      rcases Nat.lt_or_ge g w.heap.size with h' | h'
      · exact h'
      · simp [Array.getElem?_eq_none h'] at hg
    exact (k.block g hlt (hn _ ha)).trans hg
theorem owns_at {w w' : World} {F : Nat → Prop} {base n size g : Nat} {e : TypeId} {cap : Nat} {xs : List Value} (h : w.ownsRow base e size (.slice (some ⟨g, 0, none⟩) n cap) n xs) (k : Sans F w w') (hn : ¬ F g) : w'.ownsRow base e size (.slice (some ⟨g, 0, none⟩) n cap) n xs :=
  owns_lift h k (fun ad e => by cases e; exact hn)
theorem owns_below {w w' : World} {base n size : Nat} {e : TypeId} {a : Option Addr} {cap : Nat} {xs : List Value} (h : w.ownsRow base e size (.slice a n cap) n xs) (k : Below w.heap.size w w') : w'.ownsRow base e size (.slice a n cap) n xs :=
  owns_lift h (Sans.of_below (F := fun _ => False) k) (fun _ _ e => e)
theorem owns_cells {w : World} {base g cap n : Nat} {e : TypeId} {xs : List Value} (h : w.ownsRow base e 1 (.slice (some ⟨g, 0, none⟩) n cap) n xs) {j : Nat} (hj : j < n) : w.cell? ⟨g, j, none⟩ = xs[j]? := h.cellAt j (by omega)
theorem owns_cut {w : World} {base g cap n m : Nat} {e : TypeId} {xs : List Value} (h : w.ownsRow base e 1 (.slice (some ⟨g, 0, none⟩) n cap) n xs) (hm : m ≤ n) : w.ownsRow base e 1 (.slice (some ⟨g, 0, none⟩) m cap) m (xs.take m) := by
  have hl := h.1
  refine ⟨by rw [List.length_take, hl]; omega, ?_⟩
  rcases h.2 with ⟨e, _⟩ | ⟨g', cp, cur, e, hb, hg, hnc, hcm, hcs, htake⟩
  · cases e
  · simp only [Value.slice.injEq, Option.some.injEq, Addr.mk.injEq, and_true, true_and] at e
    obtain ⟨rfl, rfl⟩ := e
    refine .inr ⟨g, cap, cur, rfl, hb, hg, by omega, hcm, hcs, ?_⟩
    rw [← htake, List.take_take]
    congr 1
    omega
theorem owns_cap {w : World} {base g cap n size : Nat} {e : TypeId} {xs : List Value} (h : w.ownsRow base e size (.slice (some ⟨g, 0, none⟩) n cap) n xs) : n ≤ cap ∧ cap ≤ maxLen := by
  rcases h.2 with ⟨e, _⟩ | ⟨g', cp, cur, e, hb, hg, hnc, hcm, hcs, htake⟩
  · cases e
  · simp only [Value.slice.injEq, Option.some.injEq, Addr.mk.injEq, and_true, true_and] at e
    obtain ⟨rfl, rfl⟩ := e
    exact ⟨hnc, hcm⟩
theorem take_set_snoc {xs : List Value} {k : Nat} (v : Value) (h : k < xs.length) : (xs.set k v).take (k + 1) = xs.take k ++ [v] := by
  rw [List.take_succ_eq_append_getElem (by rw [List.length_set]; exact h), List.getElem_set_self, List.take_set_of_le (by omega)]
theorem drewN_below (w : World) (n : Nat) : Below w.heap.size w (w.drewN n) := ⟨rfl, rfl, rfl, Nat.le_refl _, fun _ _ => rfl⟩
/-- nothing but blocks of F has turned, and F' is F and new ones -/
def Grows (F : Nat → Prop) (w : World) (F' : Nat → Prop) (w' : World) : Prop := Sans F w w' ∧ ∀ k, F' k → F k ∨ w.heap.size ≤ k
theorem grows_below (F : Nat → Prop) {w w' : World} (k : Below w.heap.size w w') : Grows F w F w' := ⟨Sans.of_below k, fun k hk => .inl hk⟩
/-- numbers as cells -/
def ints (E : List Nat) : List Value := E.map fun k => Value.int .i64 (k : Nat)
theorem ints_length (E : List Nat) : (ints E).length = E.length := List.length_map _
theorem ints_append (E F : List Nat) : ints E ++ ints F = ints (E ++ F) := (List.map_append ..).symm
theorem ints_one (E : List Nat) : ∀ u ∈ ints E, u.oneCell' = true := by
  intro u hu
  obtain ⟨n, _, rfl⟩ := List.mem_map.1 hu
  rfl
theorem ints_at {E : List Nat} {j k : Nat} (h : E[j]? = some k) : (ints E)[j]? = some (Value.int .i64 (k : Nat)) := by
  unfold ints
  rw [List.getElem?_map, h]
  rfl
theorem ints_take (E : List Nat) (j : Nat) : (ints E).take j = ints (E.take j) := (List.map_take ..).symm
theorem infoI : (Try.prog.info? 3).map (fun i => (i.zero, i.size, i.bytes)) = some (some (.int .i64 0), 1, 8) := by kernel_rfl
/-- one number that is laid for an append -/
theorem one_cell (w : World) (z : Int) : ∀ (j : Nat) (u : Value), [Value.int .i64 z][j]? = some u → (w.alloc (.cells #[.int .i64 z] 3)).cell? ((⟨w.heap.size, 0, none⟩ : Addr).add j) = some u := by
  intro j u hu
  have hj : j = 0 := by
    have := (List.getElem?_eq_some_iff.1 hu).1
    simp at this
    exact this
  subst hj
  simp at hu
  subst hu
  simp [Addr.add]
theorem one_one (z : Int) : ∀ u ∈ [Value.int .i64 z], u.oneCell' = true := by
  intro u hu
  rw [List.mem_singleton] at hu
  subst hu
  rfl
theorem Octs.byte {w : World} {a : Option Addr} {len : Nat} {l : List Nat} (h : Octs w a len l) {k : Nat} (hk : k < len) : ∃ b off c, a = some ⟨b, off, none⟩ ∧ c < 256 ∧ w.cell? ⟨b, off + k, none⟩ = some (.int .u8 (c : Nat)) := by
  rcases h.2.2.2 with h0 | ⟨b, off, ha, hlt, hc⟩
  · omega
  · exact ⟨b, off, _, ha, Oct_getD h.2.2.1 k, hc k hk⟩
/-- the block that a slice leads to -/
def blk (a : Option Addr) : Nat → Prop := fun j => ∃ ad, a = some ad ∧ ad.block = j
theorem blk_some {g : Nat} {j : Nat} (h : blk (some ⟨g, 0, none⟩) j) : j = g := by
  obtain ⟨ad, e, h⟩ := h
  cases e
  exact h.symm
end Go.Proofs.Ytfldhjeeoaplfaa
