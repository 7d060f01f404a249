/-
  Rows of packets held against each other (package shunterref08's Same). Conditions: none.
-/
import Derived.Test.YtfldhjeeoaplfaaPktArg
import Derived.Deep.RegionHeld3
namespace Go.Proofs.Ytfldhjeeoaplfaa
open Go.ChangeShapes Go.WideShapes Go.ChangeAt Go.RowKit
set_option linter.unusedVariables false

theorem pk_drewN_below (w : World) (n : Nat) : Below w.heap.size w (w.drewN n) := ⟨rfl, rfl, rfl, Nat.le_refl _, fun _ _ => rfl⟩
theorem Pks.row {w : World} {a : Option Addr} {len : Nat} {xs : List Pk} (h : Pks w a len xs) {k : Nat} (hk : k < len) : ∃ b off, a = some ⟨b, off, none⟩ ∧ PkAt w b (off + k * 4) (xs.getD k zpk) := by
  rcases h.2.2 with h0 | ⟨b, off, ha, hc⟩
  · omega
  · exact ⟨b, off, ha, hc k hk⟩
/-- a row of the call's own is led to -/
theorem PRow.pks {w : World} {base n c : Nat} {a : Option Addr} {xs : List Pk} (h : PRow w base (.slice a n c) xs) (hn : xs.length = n) (hl : n ≤ 100000) : Pks w a n xs := by
  subst hn
  refine ⟨rfl, by omega, ?_⟩
  by_cases h0 : xs.length = 0
  · exact .inl h0
  · obtain ⟨g, ea, _, _⟩ := h.at (j := 0) (x := xs[0]) (List.getElem?_eq_getElem (by omega))
    subst ea
    refine .inr ⟨g, 0, rfl, fun j hj => ?_⟩
    obtain ⟨g', e, _, hp⟩ := h.at (j := j) (x := xs[j]) (List.getElem?_eq_getElem hj)
    cases e
    rw [List.getD_eq_getElem?_getD, List.getElem?_eq_getElem hj, Nat.zero_add]
    exact hp
set_option maxHeartbeats 2000000 in
set_option maxRecDepth 100000 in
theorem psame_leads (w : World) (a1 a2 : Option Addr) (m c1 c2 : Nat) (xs : List Pk) (h1 : Pks w a1 m xs) (h2 : Pks w a2 m xs) (hl : m ≤ 1000) :
    Calls Try.prog 20 #[.slice a1 m c1, .slice a2 m c2] w fun e w' => e = .returned (.bool true) ∧ Below w.heap.size w w' := by
  have H1 : Hid (Pks w a1 m xs) := h1
  have H2 : Hid (Pks w a2 m xs) := h2
  clear h1 h2
  go_enter Try.func20, Try.ntmps20
  go_wp2_with fail
  go_loopw [5] (fun x wr => ∃ k : Nat, k ≤ m ∧ x = .int .i64 k ∧ Below w.heap.size w wr) (fun x _ => m - (intOf x).toNat)
  case atStart => exact ⟨0, Nat.zero_le _, rfl, Below.refl _ _⟩
  case round =>
    obtain ⟨k, hk, rfl, hbel⟩ := hrel
    have HB : Hid (Below w.heap.size w wr) := hbel
    clear hbel
    by_cases hkm : k < m
    · have hkm' : (k : Int) < m := by omega
      obtain ⟨g1, o1, e1, hp1⟩ := (H1.out.below HB.out).row hkm
      obtain ⟨g2, o2, e2, hp2⟩ := (H2.out.below HB.out).row hkm
      subst e1 e2
      obtain ⟨x, hx⟩ : ∃ x, xs.getD k zpk = x := ⟨_, rfl⟩
      rw [hx] at hp1 hp2
      obtain ⟨p0, p1, p2, p3⟩ := hp1
      obtain ⟨q0, q1, q2, q3⟩ := hp2
      clear hx
      go_wp2_with fail
      go_region_held3 (fun w' => w'.cell? ⟨g1, o1 + k * 4, none⟩ = some (.int .i64 x.s) ∧ w'.cell? ⟨g1, o1 + k * 4 + 1, none⟩ = some (.int .i64 x.d) ∧ w'.cell? ⟨g1, o1 + k * 4 + 2, none⟩ = some (.int .i64 x.l) ∧ w'.cell? ⟨g1, o1 + k * 4 + 3, none⟩ = some (.int .u32 x.b) ∧ w'.cell? ⟨g2, o2 + k * 4, none⟩ = some (.int .i64 x.s) ∧ w'.cell? ⟨g2, o2 + k * 4 + 1, none⟩ = some (.int .i64 x.d) ∧ w'.cell? ⟨g2, o2 + k * 4 + 2, none⟩ = some (.int .i64 x.l) ∧ w'.cell? ⟨g2, o2 + k * 4 + 3, none⟩ = some (.int .u32 x.b)) (go_keep) (fail)
      go_wp2_with fail
      go_roundw
      case rel => exact ⟨k + 1, by omega, by go_num, later HB.out (pk_drewN_below _ 1)⟩
      case measure => simp [intOf]; omega
    · obtain rfl : k = m := by omega
      go_wp2_with fail
      go_ret
      exact ⟨rfl, HB.out⟩
theorem psame_any (w : World) (b1 b2 : Nat) (v1 v2 : Value) (xs : List Pk) (h1 : PRow w b1 v1 xs) (h2 : PRow w b2 v2 xs) (hl : xs.length ≤ 1000) :
    Calls Try.prog 20 #[v1, v2] w fun e w' => e = .returned (.bool true) ∧ Below w.heap.size w w' := by
  obtain ⟨a1, c1, rfl⟩ := h1.shape
  obtain ⟨a2, c2, rfl⟩ := h2.shape
  exact psame_leads w a1 a2 xs.length c1 c2 xs (h1.pks rfl (by omega)) (h2.pks rfl (by omega)) hl
end Go.Proofs.Ytfldhjeeoaplfaa
