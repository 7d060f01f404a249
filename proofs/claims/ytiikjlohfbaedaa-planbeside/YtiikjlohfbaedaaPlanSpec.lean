/-
  What package plan is to come to (contracts, as a structure), and the laws' helpers same, Heavy, known over it. Conditions: none but that package plan comes to what PlanSpec says.
-/
import Derived.Test.YtiikjlohfbaedaaRefPlanE
namespace Go.Proofs.Ytiikjlohfbaedaa
open Go.ChangeShapes Go.WideShapes Go.ChangeAt Go.RowKit
set_option linter.unusedVariables false

structure PlanSpec : Prop where
  beside : ∀ {w : World} {p : PV} {es : List (Int × Int)} {ws : List Int} {ns : List Nat}, Pl w p es ws ns → ∀ v : Int, I64 v →
    Calls Try.prog 16 #[p.val, .int .i64 v] w fun e w' => ∃ a cap, e = .returned (.slice a (Plan.bes es v).length cap) ∧ Zr w' a (Plan.bes es v).length (Plan.bes es v) ∧ Below w.heap.size w w'
  port : ∀ {w : World} {p : PV} {es : List (Int × Int)} {ws : List Int} {ns : List Nat}, Pl w p es ws ns → ∀ v u : Int, I64 v → I64 u →
    Calls Try.prog 13 #[p.val, .int .i64 v, .int .i64 u] w fun e w' => e = .returned (.int .i64 (Plan.port es v u)) ∧ Below w.heap.size w w'
  hops : ∀ {w : World} {p : PV} {es : List (Int × Int)} {ws : List Int} {ns : List Nat}, Pl w p es ws ns →
    Calls Try.prog 12 #[p.val] w fun e w' => ∃ a cap, e = .returned (.slice a (Plan.hops p.nodes es).length cap) ∧ Pr w' a (Plan.hops p.nodes es).length (Plan.hops p.nodes es) ∧ Below w.heap.size w w'
  check : ∀ {w : World} {p : PV} {es : List (Int × Int)} {ws : List Int} {ns : List Nat}, Pl w p es ws ns →
    Calls Try.prog 11 #[p.val] w fun e w' => e = .returned (.int .u16 (Plan.errno (Plan.may p.num es ws ns))) ∧ Below w.heap.size w w'

set_option maxHeartbeats 1000000 in
set_option maxRecDepth 100000 in
theorem same_any {w : World} {a b : Option Addr} {n c d : Nat} {l : List Int} (h : Zr w a n l) (k : Zr w b n l) (hn : n ≤ 17592186044416) :
    Calls Try.prog 25 #[.slice a n c, .slice b n d] w fun e w' => e = .returned (.bool true) ∧ Below w.heap.size w w' := by
  have HA : Hid (Zr w a n l) := h
  have HB : Hid (Zr w b n l) := k
  clear h k
  go_enter Try.func25, Try.ntmps25
  go_wp2_with fail
  go_loopw [5] (fun i wr => ∃ k : Nat, k ≤ n ∧ i = .int .i64 k ∧ Below w.heap.size w wr) (fun i _ => n - (intOf i).toNat)
  case atStart => exact ⟨0, Nat.zero_le _, rfl, Below.refl _ _⟩
  case round =>
    obtain ⟨k, hk, rfl, hB⟩ := hrel
    have HBw : Hid (Below w.heap.size w wr) := hB
    clear hB
    by_cases hkn : k < n
    · obtain ⟨b1, o1, e1, c1⟩ := (HA.out.below HBw.out).at hkn
      obtain ⟨b2, o2, e2, c2⟩ := (HB.out.below HBw.out).at hkn
      subst e1
      subst e2
      obtain ⟨y, hy⟩ : ∃ y, l.getD k 0 = y := ⟨_, rfl⟩
      rw [hy] at c1 c2
      clear hy
      go_wp2_with fail
      go_region
      go_wp2_with fail
      go_roundw
      case rel => first | exact ⟨k + 1, by omega, by go_num, HBw.out.drew⟩ | ((repeat apply Exists.intro); exact ⟨⟨k + 1, by omega, by go_num, HBw.out.drew⟩, rfl⟩)
      case measure => simp [intOf]; omega
    · obtain rfl : k = n := by omega
      go_wp2_with fail
      go_ret
      exact ⟨rfl, HBw.out⟩
set_option maxHeartbeats 1000000 in
set_option maxRecDepth 100000 in
theorem heavy_any {w : World} {p : PV} {es : List (Int × Int)} {ws : List Int} {ns : List Nat} (h : Pl w p es ws ns) :
    Calls Try.prog 14 #[p.val] w fun e w' => ∃ z : Int, e = .returned (.int .i64 z) ∧ Below w.heap.size w w' := by
  have hnb := h.nb
  have HX : Hid (Bxd (w.alloc p.obj) w.heap.size p) := bxd_new w p
  have HW : Hid (Below w.heap.size w (w.alloc p.obj)) := fresh _ _
  obtain ⟨N, lanes, room, queue, rounds, every, bag, start, ea, en, ec, wa, wn, wc, na, nn, nc⟩ := p
  simp only [PV.val, PV.obj] at HX HW hnb ⊢
  have HN : Hid (Lr w na nn ns) := h.hn
  clear h
  go_enter Try.func14, Try.ntmps14
  go_wp2_with fail
  generalize w.alloc _ = W1 at HX HW ⊢
  go_loopw [3, 4] (fun u i wr => ∃ (k : Nat) (z : Int), k ≤ nn ∧ u = .int .i64 z ∧ i = .int .i64 k ∧ wr = W1) (fun _ i _ => nn - (intOf i).toNat)
  case atStart => exact ⟨0, _, Nat.zero_le _, rfl, rfl, rfl⟩
  case round =>
    obtain ⟨k, z, hk, rfl, rfl, rfl⟩ := hrel
    have hc10 := HX.out.c10
    simp only at hc10
    by_cases hkn : k < nn
    · obtain ⟨b, off, ra, rc, ha, hc, _⟩ := (HN.out.below HW.out).at hkn
      subst ha
      obtain ⟨m, hm⟩ : ∃ m, ns.getD k 0 = m := ⟨_, rfl⟩
      rw [hm] at hc
      clear hm
      go_wp2_with fail
      go_roundw
      case rel => first | exact ⟨k + 1, _, by omega, rfl, by go_num, rfl⟩ | exact ⟨k + 1, _, by omega, rfl, by go_num, trivial⟩ | ((repeat apply Exists.intro); exact ⟨⟨k + 1, _, by omega, rfl, by go_num, rfl⟩, rfl⟩)
      case measure => simp [intOf]; omega
    · obtain rfl : k = nn := by omega
      go_wp2_with fail
      go_ret
      exact ⟨_, rfl, HW.out⟩
end Go.Proofs.Ytiikjlohfbaedaa
