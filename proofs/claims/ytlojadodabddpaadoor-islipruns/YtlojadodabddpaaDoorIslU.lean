/-
  Run of package islip and of package shunterref10, at any requests and any rounds: both tell the same. Conditions: none but that the arbiters are such, that the slice leads to masks, apart from them, and that the table of math/bits holds what its initialiser lays.
-/
import Derived.Test.YtlojadodabddpaaDoorIslT
namespace Go.Proofs.YtlojadodabddpaaDoor
open Go.ChangeShapes Go.WideShapes Go.ChangeAt Go.RowKit
set_option linter.unusedVariables false

/-- what a run comes to: L numbers, f; the turns G1, A1 -/
def Res (len n : Nat) (z : Int) (R G A : Nat → Nat) (L : Nat) (f : Nat → Int) (G1 A1 : Nat → Nat) : Prop :=
  (len = n ∧ ∃ K : Nat, z = (K : Nat) ∧ 1 ≤ K ∧ K ≤ 16 ∧ L = n ∧ f = Isl.run R G A n K ∧ G1 = Isl.runG R G A n ∧ A1 = Isl.runA R G A n) ∨ ((len ≠ n ∨ z < 1 ∨ 16 < z) ∧ L = 0 ∧ G1 = G ∧ A1 = A)
theorem res_of (len n : Nat) (z : Int) (R G A : Nat → Nat) : ∃ L f G1 A1, Res len n z R G A L f G1 A1 := by
  by_cases h : len = n ∧ 1 ≤ z ∧ z ≤ 16
  · obtain ⟨K, rfl⟩ := Int.eq_ofNat_of_zero_le (show 0 ≤ z by omega)
    exact ⟨_, _, _, _, .inl ⟨h.1, K, rfl, by omega, by omega, rfl, rfl, rfl, rfl⟩⟩
  · exact ⟨0, fun _ => 0, _, _, .inr ⟨by omega, rfl, rfl, rfl⟩⟩
theorem Res.le {len n : Nat} {z : Int} {R G A : Nat → Nat} {L : Nat} {f : Nat → Int} {G1 A1 : Nat → Nat} (h : Res len n z R G A L f G1 A1) (hn : n ≤ 16) : L ≤ 16 := by
  rcases h with ⟨_, K, _, _, _, h, _⟩ | ⟨_, h, _⟩ <;> omega
theorem Nums.sans0 {κ : IntKind} {F : Nat → Prop} {w w' : World} {a : Option Addr} {len : Nat} {l : List Nat} (h : Nums κ w a len l) (k : Sans F w w') (hn : len ≠ 0 → ∀ ad, a = some ad → ¬ F ad.block) : Nums κ w' a len l := by
  by_cases h0 : len = 0
  · exact ⟨h.1, h.2.1, .inl h0⟩
  · exact h.sans k (hn h0)
theorem run_all {w : World} {p g a n : Nat} {G A : Nat → Nat} (h : Arb w p g a n G A) (x : Option Addr) (len cap : Nat) (hlc : len ≤ cap) (hcm : cap ≤ 140737488351232) (rows : List Nat) (hl : ∀ x ∈ rows, x < 65536) (hr : Nums .u16 w x len rows) (hT : Tab w) (z : Int) (hz : -9223372036854775808 ≤ z ∧ z ≤ 9223372036854775807) {L : Nat} {f : Nat → Int} {G1 A1 : Nat → Nat} (hres : Res len n z (fun i => rows.getD i 0) G A L f G1 A1) :
    Calls Tryd.prog 16 #[.pointer (some ⟨p, 0, none⟩), .slice x len cap, .int .i64 z] w fun e w' => ∃ oa cp, e = .returned (.slice oa L cp) ∧ Led w' oa L f ∧ (∀ ad, oa = some ad → w.heap.size ≤ ad.block) ∧ Arb w' p g a n G1 A1 ∧ Sans (fun j => j = g ∨ j = a) w w' := by
  rcases hres with ⟨rfl, K, rfl, hK1, hK2, rfl, rfl, rfl, rfl⟩ | ⟨hb, rfl, rfl, rfl⟩
  · refine (run_yes h x cap hlc (by omega) rows hl hr hT K hK1 hK2 _ rfl).mono ?_
    rintro e w' ⟨b, rfl, h1, h2, h3, h4⟩
    exact ⟨some ⟨b, 0, none⟩, _, rfl, h2.led, fun ad e => by cases e; exact h1, h3, h4⟩
  · refine (run_no h x len cap (by omega) z hz hb).mono ?_
    rintro e w' ⟨rfl, rfl⟩
    exact ⟨none, 0, rfl, .inl rfl, (fun ad e => by cases e), h, Sans.refl _ _⟩
theorem rrun_all {w : World} {p g a n : Nat} {G A : Nat → Nat} (h : Arb w p g a n G A) (x : Option Addr) (len cap : Nat) (hlc : len ≤ cap) (hcm : cap ≤ 140737488351232) (rows : List Nat) (hl : ∀ x ∈ rows, x < 65536) (hr : Nums .u16 w x len rows) (hx : len ≠ 0 → ∀ ad, x = some ad → ad.block ≠ g ∧ ad.block ≠ a) (z : Int) (hz : -9223372036854775808 ≤ z ∧ z ≤ 9223372036854775807) {L : Nat} {f : Nat → Int} {G1 A1 : Nat → Nat} (hres : Res len n z (fun i => rows.getD i 0) G A L f G1 A1) :
    Calls Tryd.prog 20 #[.pointer (some ⟨p, 0, none⟩), .slice x len cap, .int .i64 z] w fun e w' => ∃ oa cp, e = .returned (.slice oa L cp) ∧ Led w' oa L f ∧ (∀ ad, oa = some ad → w.heap.size ≤ ad.block) ∧ Arb w' p g a n G1 A1 ∧ Sans (fun j => j = g ∨ j = a) w w' := by
  rcases hres with ⟨rfl, K, rfl, hK1, hK2, rfl, rfl, rfl, rfl⟩ | ⟨hb, rfl, rfl, rfl⟩
  · refine (rrun_yes h x cap rows hl hr (hx (by have := h.n1; omega)) K hK1 hK2 _ rfl).mono ?_
    rintro e w' ⟨b, cp, rfl, h1, h2, h3, h4⟩
    exact ⟨some ⟨b, 0, none⟩, _, rfl, h2.led, fun ad e => by cases e; exact h1, h3, h4⟩
  · refine (rrun_no h x len cap (by omega) z hz hb).mono ?_
    rintro e w' ⟨rfl, rfl⟩
    exact ⟨none, 0, rfl, .inl rfl, (fun ad e => by cases e), h, Sans.refl _ _⟩
theorem Rws.low {w : World} {a : Option Addr} {len : Nat} {rs : List RowM} (h : Rws w a len rs) {j : Nat} (hj : j < len) (h0 : (rs.getD j zrow).len ≠ 0) : ∀ ad, (rs.getD j zrow).a = some ad → ad.block < w.heap.size := by
  obtain ⟨b, off, _, _, hok⟩ := h.at hj
  intro ad e
  rcases hok.1.2.2 with h1 | ⟨b', off', ha, hlt, _⟩
  · exact absurd h1 h0
  · rw [e] at ha
    cases ha
    exact hlt
end Go.Proofs.YtlojadodabddpaaDoor
