/-
  The functions of package wire that append fields and the check come to a frame's bytes. Conditions: none but that the numbers are of their kinds and the slice is the call's own or full.
-/
import Derived.Test.YtmllgbgcageccaaWireA
import Derived.Deep.DeepCutAuto
namespace Go.Proofs.Ytmllgbgcageccaa
open Go.ChangeShapes Go.WideShapes Go.ChangeAt Go.RowKit
set_option linter.unusedVariables false

theorem append16_is (r : Option Nat) (a : Option Addr) (len cap n : Nat) (z : Int) (hz : z = n) (l : List Nat) (hn : n < 65536) (hlen : len ≤ 1000) (w : World) (h : Onto w r a len cap l) (tot : Nat) (ht : len + 2 = tot) (l3 : List Nat) (hl3 : l ++ Wire.be n = l3) :
    Calls Try.prog 27 #[.slice a len cap, .int .u16 z] w fun e w' => ∃ g cap', e = .returned (.slice (some ⟨g, 0, none⟩) tot cap') ∧ Own w' 0 (some ⟨g, 0, none⟩) tot cap' l3 ∧ Moved w w' r g := by
  subst hz ht hl3
  exact append16_any r a len cap n l hn hlen w h
theorem be_be (n : Nat) (h : n < 4294967296) : Wire.be (n / 65536) ++ Wire.be (n % 65536) = Wire.be4 n := by
  unfold Wire.be Wire.be4
  rw [show n / 65536 / 256 = n / 16777216 by omega, show n % 65536 / 256 = n / 256 % 256 by omega, show n % 65536 % 256 = n % 256 by omega]
  rfl
set_option maxHeartbeats 400000 in
theorem append32_any (r : Option Nat) (a : Option Addr) (len cap n : Nat) (l : List Nat) (hn : n < 4294967296) (hlen : len ≤ 900) (w : World) (h : Onto w r a len cap l) :
    Calls Try.prog 29 #[.slice a len cap, .int .u32 n] w fun e w' => ∃ g cap', e = .returned (.slice (some ⟨g, 0, none⟩) (len + 4 : Nat) cap') ∧ Own w' 0 (some ⟨g, 0, none⟩) (len + 4) cap' (l ++ Wire.be4 n) ∧ Moved w w' r g := by
  have HO : Hid (Onto w r a len cap l) := h
  clear h
  go_enter Try.func29, Try.ntmps29
  go_wp2_with fail
  refine (append16_is r a len cap (n / 65536) _ (by omega) l (by omega) (by omega) _ HO.out (len + 2) rfl _ rfl).mono ?_
  rintro e w1 ⟨g1, c1, rfl, o1, m1⟩
  go_wp2_with fail
  refine (append16_is (some g1) _ (len + 2) c1 (n % 65536) _ (by rw [IntKind.wrap_u16]; omega) _ (by omega) (by omega) _ (Onto.own o1) (len + 4) (by omega) (l ++ Wire.be4 n) (by rw [List.append_assoc, be_be n hn])).mono ?_
  rintro e w2 ⟨g2, c2, rfl, o2, m2⟩
  go_wp2_with fail
  go_ret
  exact ⟨g2, c2, rfl, o2, m1.trans m2⟩
set_option maxHeartbeats 400000 in
theorem check_any (r : Option Nat) (a : Option Addr) (len cap : Nat) (l : List Nat) (hlen : len ≤ 900) (w : World) (h : Onto w r a len cap l) :
    Calls Try.prog 21 #[.slice a len cap] w fun e w' => ∃ g cap', e = .returned (.slice (some ⟨g, 0, none⟩) (len + 2 : Nat) cap') ∧ Own w' 0 (some ⟨g, 0, none⟩) (len + 2) cap' (Wire.withCheck l) ∧ Moved w w' r g := by
  have HO : Hid (Onto w r a len cap l) := h
  clear h
  go_enter Try.func21, Try.ntmps21
  go_wp2_with fail
  refine (sum_any a len cap l _ HO.out.octs).mono ?_
  rintro e w1 ⟨rfl, b1⟩
  go_wp2_with fail
  refine (append16_is r a len cap (Crc.crc l) _ rfl l (Crc.crc_lt HO.out.octs.2.2.1) (by omega) _ (HO.out.below b1) (len + 2) rfl (Wire.withCheck l) rfl).mono ?_
  rintro e w2 ⟨g2, c2, rfl, o2, m2⟩
  go_wp2_with fail
  go_ret
  exact ⟨g2, c2, rfl, o2, Moved.ahead b1 m2⟩

theorem Moved.ne {w w' : World} {g g' b : Nat} (h : Moved w w' (some g) g') (hb : b < w.heap.size) (hn : b ≠ g) : b ≠ g' := by
  rcases h.2 with h2 | h2
  · cases h2; exact hn
  · omega
/-- block b holds the frame f -/
def Box (w : World) (b : Nat) (f : Wire.Fr) : Prop := w.cell? ⟨b, 0, none⟩ = some (.int .u8 f.k) ∧ w.cell? ⟨b, 1, none⟩ = some (.int .u8 f.l) ∧ w.cell? ⟨b, 2, none⟩ = some (.int .u16 f.s) ∧ w.cell? ⟨b, 3, none⟩ = some (.int .u8 f.a) ∧ w.cell? ⟨b, 4, none⟩ = some (.int .u8 f.b) ∧ w.cell? ⟨b, 5, none⟩ = some (.int .u32 f.x)
theorem Box.lt {w : World} {b : Nat} {f : Wire.Fr} (h : Box w b f) : b < w.heap.size := cell_lt h.1
theorem Box.moved {w w' : World} {b : Nat} {f : Wire.Fr} {r : Option Nat} {g : Nat} (h : Box w b f) (m : Moved w w' r g) (hn : some b ≠ r) : Box w' b f := by
  have hb := h.lt
  have e : ∀ o, w'.cell? ⟨b, o, none⟩ = w.cell? ⟨b, o, none⟩ := fun o => m.cell (p := ⟨b, o, none⟩) hb hn
  unfold Box at h ⊢
  rw [e, e, e, e, e, e]
  exact h
theorem Box.below {w w' : World} {b : Nat} {f : Wire.Fr} (h : Box w b f) (k : Below w.heap.size w w') : Box w' b f := by
  have hb := h.lt
  have e : ∀ o, w'.cell? ⟨b, o, none⟩ = w.cell? ⟨b, o, none⟩ := fun o => k.cell (p := ⟨b, o, none⟩) hb
  unfold Box at h ⊢
  rw [e, e, e, e, e, e]
  exact h
theorem Box.made (w : World) (f : Wire.Fr) : Box (w.alloc (.cells #[.int .u8 f.k, .int .u8 f.l, .int .u16 f.s, .int .u8 f.a, .int .u8 f.b, .int .u32 f.x] 25)) w.heap.size f := by
  unfold Box; simp
theorem two_on (w : World) (x y : Int) (c d : Nat) (hx : x = c) (hy : y = d) (hc : c < 256) (hd : d < 256) (b : Nat) (hb : b = w.heap.size) : Octs (w.alloc (.cells #[.int .u8 x, .int .u8 y] 5)) (some ⟨b, 0, none⟩) 2 [c, d] := by
  subst hb; exact two_is w x y c d hx hy hc hd

theorem append32_is (r : Option Nat) (a : Option Addr) (len cap n : Nat) (z : Int) (hz : z = n) (l : List Nat) (hn : n < 4294967296) (hlen : len ≤ 900) (w : World) (h : Onto w r a len cap l) (tot : Nat) (ht : len + 4 = tot) (l3 : List Nat) (hl3 : l ++ Wire.be4 n = l3) :
    Calls Try.prog 29 #[.slice a len cap, .int .u32 z] w fun e w' => ∃ g cap', e = .returned (.slice (some ⟨g, 0, none⟩) tot cap') ∧ Own w' 0 (some ⟨g, 0, none⟩) tot cap' l3 ∧ Moved w w' r g := by
  subst hz ht hl3
  exact append32_any r a len cap n l hn hlen w h
def flen (f : Wire.Fr) : Nat := if f.k = 1 then 10 else 4
set_option maxHeartbeats 1000000 in
theorem fields_any (g cap : Nat) (f : Wire.Fr) (hf : f.ok) (w : World) (h : Own w 0 (some ⟨g, 0, none⟩) 0 cap []) :
    Calls Try.prog 22 #[.slice (some ⟨g, 0, none⟩) (0 : Nat) cap, fr f] w fun e w' => ∃ g' cap', e = .returned (.slice (some ⟨g', 0, none⟩) (flen f : Nat) cap') ∧ Own w' 0 (some ⟨g', 0, none⟩) (flen f) cap' f.fields ∧ Moved w w' (some g) g' := by
  obtain ⟨h1, h2, h3, h4, h5, h6⟩ := hf
  have HB : Hid (∀ w : World, Box (w.alloc (.cells #[.int .u8 f.k, .int .u8 f.l, .int .u16 f.s, .int .u8 f.a, .int .u8 f.b, .int .u32 f.x] 25)) w.heap.size f) := fun w => Box.made w f
  have hg : g < w.heap.size := by
    rcases h.shape with ⟨e, _⟩ | ⟨g', e, _, hlt, _⟩
    · cases e
    · cases e; exact hlt
  have HO : Hid (Own w 0 (some ⟨g, 0, none⟩) 0 cap []) := h
  clear h
  obtain ⟨k, l, s, a, b, x⟩ := f
  simp only at h1 h2 h3 h4 h5 h6
  unfold fr
  simp only at HB ⊢
  by_cases hk : k = 1
  · have hkb : ((k : Int) == 1) = true := by subst hk; rfl
    have HE : Hid (flen ⟨k, l, s, a, b, x⟩ = 10 ∧ Wire.Fr.fields ⟨k, l, s, a, b, x⟩ = ((([] ++ [k, l]) ++ Wire.be s) ++ [a, b]) ++ Wire.be4 x) := by subst hk; exact ⟨rfl, rfl⟩
    clear hk
    go_enter Try.func22, Try.ntmps22
    go_wp2_with (at_builtin; refine wpList_append_onto rfl _ _ rfl (some g) (some ⟨g, 0, none⟩) 0 cap [] rfl (Onto.own (HO.out.below (Below.trans (fresh _ _) ((fresh _ _).mono (by simp))))) _ 0 2 2 [k, l] rfl (two_on _ _ _ _ _ rfl rfl (by omega) (by omega) _ (by simp)) (by omega) (by omega) 2 rfl _ rfl ?_; intro g1 c1 w1 o1 m1; have B1 := ((HB.out w).below (fresh _ _)).moved m1 (by intro e; cases e; omega); obtain ⟨f0, f1, f2, f3, f4, f5⟩ := id B1; have HB1 : Hid (Box _ _ _) := B1; clear B1)
    refine (append16_is (some g1) _ 2 c1 s _ rfl _ h3 (by omega) _ (Onto.own o1) 4 rfl _ rfl).mono ?_
    rintro e w2 ⟨g2, c2, rfl, o2, m2⟩
    have hn1 : w.heap.size ≠ g1 := m1.ne (by simp; omega) (by omega)
    have B2 := HB1.out.moved m2 (by intro e; cases e; exact hn1 rfl)
    have hn2 : w.heap.size ≠ g2 := m2.ne HB1.out.lt hn1
    clear f0 f1 f2 f3 f4 f5 HB1
    obtain ⟨f0, f1, f2, f3, f4, f5⟩ := id B2
    have HB2 : Hid (Box _ _ _) := B2
    clear B2
    go_wp2_with (at_builtin; refine wpList_append_onto rfl _ _ rfl (some g2) (some ⟨g2, 0, none⟩) 4 c2 _ rfl (Onto.own (o2.below (fresh _ _))) _ 0 2 2 [a, b] rfl (two_on _ _ _ _ _ rfl rfl (by omega) (by omega) _ rfl) (by omega) (by omega) 6 rfl _ rfl ?_; intro g3 c3 w3 o3 m3; have B3 := (HB2.out.below (fresh _ _)).moved m3 (by intro e; cases e; exact hn2 rfl); clear f0 f1 f2 f3 f4 f5; obtain ⟨f0, f1, f2, f3, f4, f5⟩ := id B3; clear B3)
    refine (append32_is (some g3) _ 6 c3 x _ rfl _ h6 (by omega) _ (Onto.own o3) 10 rfl _ rfl).mono ?_
    rintro e w4 ⟨g4, c4, rfl, o4, m4⟩
    go_wp2_with fail
    go_ret
    refine ⟨g4, c4, by rw [HE.out.1]; rfl, by rw [HE.out.1, HE.out.2]; exact o4, ?_⟩
    exact Moved.ahead (Below.trans (fresh _ _) ((fresh _ _).mono (by simp))) (((m1.trans m2).trans (Moved.ahead (fresh _ _) m3)).trans m4)
  · have hkb : ((k : Int) == 1) = false := by simp; omega
    have HE : Hid (flen ⟨k, l, s, a, b, x⟩ = 4 ∧ Wire.Fr.fields ⟨k, l, s, a, b, x⟩ = (([] ++ [k, l]) ++ Wire.be s)) := by
      refine ⟨by unfold flen; rw [if_neg hk], ?_⟩
      unfold Wire.Fr.fields Wire.Fr.tail
      rw [if_neg hk, List.append_nil]
      rfl
    clear hk
    go_enter Try.func22, Try.ntmps22
    go_wp2_with (at_builtin; refine wpList_append_onto rfl _ _ rfl (some g) (some ⟨g, 0, none⟩) 0 cap [] rfl (Onto.own (HO.out.below (Below.trans (fresh _ _) ((fresh _ _).mono (by simp))))) _ 0 2 2 [k, l] rfl (two_on _ _ _ _ _ rfl rfl (by omega) (by omega) _ (by simp)) (by omega) (by omega) 2 rfl _ rfl ?_; intro g1 c1 w1 o1 m1; have B1 := ((HB.out w).below (fresh _ _)).moved m1 (by intro e; cases e; omega); obtain ⟨f0, f1, f2, f3, f4, f5⟩ := id B1; have HB1 : Hid (Box _ _ _) := B1; clear B1)
    refine (append16_is (some g1) _ 2 c1 s _ rfl _ h3 (by omega) _ (Onto.own o1) 4 rfl _ rfl).mono ?_
    rintro e w2 ⟨g2, c2, rfl, o2, m2⟩
    have hn1 : w.heap.size ≠ g1 := m1.ne (by simp; omega) (by omega)
    have B2 := HB1.out.moved m2 (by intro e; cases e; exact hn1 rfl)
    clear f0 f1 f2 f3 f4 f5 HB1
    obtain ⟨f0, f1, f2, f3, f4, f5⟩ := id B2
    clear B2
    go_wp2_with fail
    go_ret
    refine ⟨g2, c2, by rw [HE.out.1]; rfl, by rw [HE.out.1, HE.out.2]; exact o2, ?_⟩
    exact Moved.ahead (Below.trans (fresh _ _) ((fresh _ _).mono (by simp))) (m1.trans m2)
end Go.Proofs.Ytmllgbgcageccaa
