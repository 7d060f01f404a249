/-
  Contracts and plain facts that the walks lean on (WireB, WireC, NodeD). Conditions: none but those that each states.
-/
import Derived.Test.YtniicgbkeifnjaaGreatDoorQ31
import Derived.Laws.MakeOwn
namespace Go.Proofs.YtniicgbkeifnjaaGreatDoor
open Go.ChangeShapes Go.WideShapes Go.ChangeAt Go.RowKit
set_option linter.unusedVariables false
set_option maxRecDepth 100000
theorem append16_is (r : Option Nat) (a : Option Addr) (len cap n : Nat) (z : Int) (hz : z = n) (l : List Nat) (hn : n < 65536) (hlen : len ≤ 1000) (w : World) (h : Onto w r a len cap l) (tot : Nat) (ht : len + 2 = tot) (l3 : List Nat) (hl3 : l ++ Wire.be n = l3) :
    Calls Tryz.prog 158 #[.slice a len cap, .int .u16 z] w fun e w' => ∃ g cap', e = .returned (.slice (some ⟨g, 0, none⟩) tot cap') ∧ Own w' 0 (some ⟨g, 0, none⟩) tot cap' l3 ∧ Moved w w' r g := by
  subst hz ht hl3
  exact append16_any r a len cap n l hn hlen w h
theorem be_be (n : Nat) (h : n < 4294967296) : Wire.be (n / 65536) ++ Wire.be (n % 65536) = Wire.be4 n := by
  unfold Wire.be Wire.be4
  rw [show n / 65536 / 256 = n / 16777216 by omega, show n % 65536 / 256 = n / 256 % 256 by omega, show n % 65536 % 256 = n % 256 by omega]
  rfl
set_option maxHeartbeats 400000 in
theorem append32_any (r : Option Nat) (a : Option Addr) (len cap n : Nat) (l : List Nat) (hn : n < 4294967296) (hlen : len ≤ 900) (w : World) (h : Onto w r a len cap l) :
    Calls Tryz.prog 160 #[.slice a len cap, .int .u32 n] w fun e w' => ∃ g cap', e = .returned (.slice (some ⟨g, 0, none⟩) (len + 4 : Nat) cap') ∧ Own w' 0 (some ⟨g, 0, none⟩) (len + 4) cap' (l ++ Wire.be4 n) ∧ Moved w w' r g := by
  have HO : Hid (Onto w r a len cap l) := h
  clear h
  go_enter Tryz.func160, Tryz.ntmps160
  go_wp2_with fail
  refine (append16_is r a len cap (n / 65536) _ (by omega) l (by omega) (by omega) _ HO.out (len + 2) rfl _ rfl).mono ?_
  rintro e w1 ⟨g1, c1, rfl, o1, m1⟩
  go_wp2_with fail
  refine (append16_is (some g1) _ (len + 2) c1 (n % 65536) _ (by rw [IntKind.wrap_u16]; omega) _ (by omega) (by omega) _ (Onto.own o1) (len + 4) (by omega) (l ++ Wire.be4 n) (by rw [List.append_assoc, be_be n hn])).mono ?_
  rintro e w2 ⟨g2, c2, rfl, o2, m2⟩
  go_wp2_with fail
  go_ret
  exact ⟨g2, c2, rfl, o2, m1.trans m2⟩
set_option maxHeartbeats 400000 in
theorem wcheck_any (r : Option Nat) (a : Option Addr) (len cap : Nat) (l : List Nat) (hlen : len ≤ 900) (w : World) (h : Onto w r a len cap l) :
    Calls Tryz.prog 98 #[.slice a len cap] w fun e w' => ∃ g cap', e = .returned (.slice (some ⟨g, 0, none⟩) (len + 2 : Nat) cap') ∧ Own w' 0 (some ⟨g, 0, none⟩) (len + 2) cap' (Wire.withCheck l) ∧ Moved w w' r g := by
  have HO : Hid (Onto w r a len cap l) := h
  clear h
  go_enter Tryz.func98, Tryz.ntmps98
  go_wp2_with fail
  refine (sum_any a len cap l _ HO.out.octs).mono ?_
  rintro e w1 ⟨rfl, b1⟩
  go_wp2_with fail
  refine (append16_is r a len cap (Crc.crc l) _ rfl l (Crc.crc_lt HO.out.octs.2.2.1) (by omega) _ (HO.out.below b1) (len + 2) rfl (Wire.withCheck l) rfl).mono ?_
  rintro e w2 ⟨g2, c2, rfl, o2, m2⟩
  go_wp2_with fail
  go_ret
  exact ⟨g2, c2, rfl, o2, Moved.ahead b1 m2⟩
theorem Moved.ne {w w' : World} {g g' b : Nat} (h : Moved w w' (some g) g') (hb : b < w.heap.size) (hn : b ≠ g) : b ≠ g' := by
  rcases h.2 with h2 | h2
  · cases h2; exact hn
  · omega
def Box (w : World) (b : Nat) (f : Wire.Fr) : Prop := w.cell? ⟨b, 0, none⟩ = some (.int .u8 f.k) ∧ w.cell? ⟨b, 1, none⟩ = some (.int .u8 f.l) ∧ w.cell? ⟨b, 2, none⟩ = some (.int .u16 f.s) ∧ w.cell? ⟨b, 3, none⟩ = some (.int .u8 f.a) ∧ w.cell? ⟨b, 4, none⟩ = some (.int .u8 f.b) ∧ w.cell? ⟨b, 5, none⟩ = some (.int .u32 f.x)
theorem Box.lt {w : World} {b : Nat} {f : Wire.Fr} (h : Box w b f) : b < w.heap.size := cell_lt h.1
theorem Box.moved {w w' : World} {b : Nat} {f : Wire.Fr} {r : Option Nat} {g : Nat} (h : Box w b f) (m : Moved w w' r g) (hn : some b ≠ r) : Box w' b f := by
  have hb := h.lt
  have e : ∀ o, w'.cell? ⟨b, o, none⟩ = w.cell? ⟨b, o, none⟩ := fun o => m.cell (p := ⟨b, o, none⟩) hb hn
  unfold Box at h ⊢
  rw [e, e, e, e, e, e]
  exact h
theorem Box.below {w w' : World} {b : Nat} {f : Wire.Fr} (h : Box w b f) (k : Below w.heap.size w w') : Box w' b f := by
  have hb := h.lt
  have e : ∀ o, w'.cell? ⟨b, o, none⟩ = w.cell? ⟨b, o, none⟩ := fun o => k.cell (p := ⟨b, o, none⟩) hb
  unfold Box at h ⊢
  rw [e, e, e, e, e, e]
  exact h
theorem Box.made (w : World) (f : Wire.Fr) : Box (w.alloc (.cells #[.int .u8 f.k, .int .u8 f.l, .int .u16 f.s, .int .u8 f.a, .int .u8 f.b, .int .u32 f.x] 47)) w.heap.size f := by
  unfold Box; simp
theorem two_on (w : World) (x y : Int) (c d : Nat) (hx : x = c) (hy : y = d) (hc : c < 256) (hd : d < 256) (b : Nat) (hb : b = w.heap.size) : Octs (w.alloc (.cells #[.int .u8 x, .int .u8 y] 5)) (some ⟨b, 0, none⟩) 2 [c, d] := by
  subst hb; exact two_is w x y c d hx hy hc hd
theorem append32_is (r : Option Nat) (a : Option Addr) (len cap n : Nat) (z : Int) (hz : z = n) (l : List Nat) (hn : n < 4294967296) (hlen : len ≤ 900) (w : World) (h : Onto w r a len cap l) (tot : Nat) (ht : len + 4 = tot) (l3 : List Nat) (hl3 : l ++ Wire.be4 n = l3) :
    Calls Tryz.prog 160 #[.slice a len cap, .int .u32 z] w fun e w' => ∃ g cap', e = .returned (.slice (some ⟨g, 0, none⟩) tot cap') ∧ Own w' 0 (some ⟨g, 0, none⟩) tot cap' l3 ∧ Moved w w' r g := by
  subst hz ht hl3
  exact append32_any r a len cap n l hn hlen w h
def flen (f : Wire.Fr) : Nat := if f.k = 1 then 10 else 4
set_option maxHeartbeats 1000000 in
theorem fields_any (g cap : Nat) (f : Wire.Fr) (hf : f.ok) (w : World) (h : Own w 0 (some ⟨g, 0, none⟩) 0 cap []) :
    Calls Tryz.prog 99 #[.slice (some ⟨g, 0, none⟩) (0 : Nat) cap, fr f] w fun e w' => ∃ g' cap', e = .returned (.slice (some ⟨g', 0, none⟩) (flen f : Nat) cap') ∧ Own w' 0 (some ⟨g', 0, none⟩) (flen f) cap' f.fields ∧ Moved w w' (some g) g' := by
  obtain ⟨h1, h2, h3, h4, h5, h6⟩ := hf
  have HB : Hid (∀ w : World, Box (w.alloc (.cells #[.int .u8 f.k, .int .u8 f.l, .int .u16 f.s, .int .u8 f.a, .int .u8 f.b, .int .u32 f.x] 47)) w.heap.size f) := fun w => Box.made w f
  have hg : g < w.heap.size := by
    rcases h.shape with ⟨e, _⟩ | ⟨g', e, _, hlt, _⟩
    · cases e
    · cases e; exact hlt
  have HO : Hid (Own w 0 (some ⟨g, 0, none⟩) 0 cap []) := h
  clear h
  obtain ⟨k, l, s, a, b, x⟩ := f
  simp only at h1 h2 h3 h4 h5 h6
  unfold fr
  simp only at HB ⊢
  by_cases hk : k = 1
  · have hkb : ((k : Int) == 1) = true := by subst hk; rfl
    have HE : Hid (flen ⟨k, l, s, a, b, x⟩ = 10 ∧ Wire.Fr.fields ⟨k, l, s, a, b, x⟩ = ((([] ++ [k, l]) ++ Wire.be s) ++ [a, b]) ++ Wire.be4 x) := by subst hk; exact ⟨rfl, rfl⟩
    clear hk
    go_enter Tryz.func99, Tryz.ntmps99
    go_wp2_with (at_builtin; refine wpList_append_onto rfl _ _ rfl (some g) (some ⟨g, 0, none⟩) 0 cap [] rfl (Onto.own (HO.out.below (Below.trans (fresh _ _) ((fresh _ _).mono (by simp))))) _ 0 2 2 [k, l] rfl (two_on _ _ _ _ _ rfl rfl (by omega) (by omega) _ (by simp)) (by omega) (by omega) 2 rfl _ rfl ?_; intro g1 c1 w1 o1 m1; have B1 := ((HB.out w).below (fresh _ _)).moved m1 (by intro e; cases e; omega); obtain ⟨f0, f1, f2, f3, f4, f5⟩ := id B1; have HB1 : Hid (Box _ _ _) := B1; clear B1)
    refine (append16_is (some g1) _ 2 c1 s _ rfl _ h3 (by omega) _ (Onto.own o1) 4 rfl _ rfl).mono ?_
    rintro e w2 ⟨g2, c2, rfl, o2, m2⟩
    have hn1 : w.heap.size ≠ g1 := m1.ne (by simp; omega) (by omega)
    have B2 := HB1.out.moved m2 (by intro e; cases e; exact hn1 rfl)
    have hn2 : w.heap.size ≠ g2 := m2.ne HB1.out.lt hn1
    clear f0 f1 f2 f3 f4 f5 HB1
    obtain ⟨f0, f1, f2, f3, f4, f5⟩ := id B2
    have HB2 : Hid (Box _ _ _) := B2
    clear B2
    go_wp2_with (at_builtin; refine wpList_append_onto rfl _ _ rfl (some g2) (some ⟨g2, 0, none⟩) 4 c2 _ rfl (Onto.own (o2.below (fresh _ _))) _ 0 2 2 [a, b] rfl (two_on _ _ _ _ _ rfl rfl (by omega) (by omega) _ rfl) (by omega) (by omega) 6 rfl _ rfl ?_; intro g3 c3 w3 o3 m3; have B3 := (HB2.out.below (fresh _ _)).moved m3 (by intro e; cases e; exact hn2 rfl); clear f0 f1 f2 f3 f4 f5; obtain ⟨f0, f1, f2, f3, f4, f5⟩ := id B3; clear B3)
    refine (append32_is (some g3) _ 6 c3 x _ rfl _ h6 (by omega) _ (Onto.own o3) 10 rfl _ rfl).mono ?_
    rintro e w4 ⟨g4, c4, rfl, o4, m4⟩
    go_wp2_with fail
    go_ret
    refine ⟨g4, c4, by rw [HE.out.1]; rfl, by rw [HE.out.1, HE.out.2]; exact o4, ?_⟩
    exact Moved.ahead (Below.trans (fresh _ _) ((fresh _ _).mono (by simp))) (((m1.trans m2).trans (Moved.ahead (fresh _ _) m3)).trans m4)
  · have hkb : ((k : Int) == 1) = false := by simp; omega
    have HE : Hid (flen ⟨k, l, s, a, b, x⟩ = 4 ∧ Wire.Fr.fields ⟨k, l, s, a, b, x⟩ = (([] ++ [k, l]) ++ Wire.be s)) := by
      refine ⟨by unfold flen; rw [if_neg hk], ?_⟩
      unfold Wire.Fr.fields Wire.Fr.tail
      rw [if_neg hk, List.append_nil]
      rfl
    clear hk
    go_enter Tryz.func99, Tryz.ntmps99
    go_wp2_with (at_builtin; refine wpList_append_onto rfl _ _ rfl (some g) (some ⟨g, 0, none⟩) 0 cap [] rfl (Onto.own (HO.out.below (Below.trans (fresh _ _) ((fresh _ _).mono (by simp))))) _ 0 2 2 [k, l] rfl (two_on _ _ _ _ _ rfl rfl (by omega) (by omega) _ (by simp)) (by omega) (by omega) 2 rfl _ rfl ?_; intro g1 c1 w1 o1 m1; have B1 := ((HB.out w).below (fresh _ _)).moved m1 (by intro e; cases e; omega); obtain ⟨f0, f1, f2, f3, f4, f5⟩ := id B1; have HB1 : Hid (Box _ _ _) := B1; clear B1)
    refine (append16_is (some g1) _ 2 c1 s _ rfl _ h3 (by omega) _ (Onto.own o1) 4 rfl _ rfl).mono ?_
    rintro e w2 ⟨g2, c2, rfl, o2, m2⟩
    have hn1 : w.heap.size ≠ g1 := m1.ne (by simp; omega) (by omega)
    have B2 := HB1.out.moved m2 (by intro e; cases e; exact hn1 rfl)
    clear f0 f1 f2 f3 f4 f5 HB1
    obtain ⟨f0, f1, f2, f3, f4, f5⟩ := id B2
    clear B2
    go_wp2_with fail
    go_ret
    refine ⟨g2, c2, by rw [HE.out.1]; rfl, by rw [HE.out.1, HE.out.2]; exact o2, ?_⟩
    exact Moved.ahead (Below.trans (fresh _ _) ((fresh _ _).mono (by simp))) (m1.trans m2)
end Go.Proofs.YtniicgbkeifnjaaGreatDoor
namespace Go.Proofs.YtniicgbkeifnjaaGreatDoor
open Go.ChangeShapes Go.WideShapes Go.ChangeAt Go.RowKit
set_option linter.unusedVariables false
set_option maxRecDepth 100000
theorem size_is (k : Nat) (hk : k < 256) (n : Int) (hn : ((Wire.sizeOf k : Nat) : Int) = n) (w : World) :
    Calls Tryz.prog 100 #[.int .u8 k] w fun e w' => e = .returned (.int .i64 n) ∧ w' = w := by
  subst hn; exact size_any k hk w
theorem sound_is (f : Wire.Fr) (hf : f.ok) (b : Bool) (hb : f.sound = b) (w : World) :
    Calls Tryz.prog 97 #[fr f] w fun e w' => e = .returned (.bool b) ∧ Below w.heap.size w w' := by
  subst hb; exact sound_any f hf w
theorem drew_below (w : World) : Below w.heap.size w w.drew := (Below.refl _ _).drew
def madeRow (n : Nat) : Array Value := madeCells (Value.int .u8 0).cells (n * 1)
theorem make_run (n : Nat) (hn : n ≤ 1000) (w : World) : (Instr.makeSlice 22 (.int .i64 0) (.int .i64 (n : Int))).run Tryz.prog w = .ok (.slice (some ⟨w.heap.size, 0, none⟩) 0 n) (w.alloc (.cells (madeRow n) 5)) := by
  obtain ⟨i0, hi, hz0, hz1, hz2⟩ := info_parts info8
  have := run_make (P := Tryz.prog) w 22 5 i0 (.int .u8 0) Tryz.underlying22 hi hz0 .i64 .i64 0 n (by omega) (by omega) (by rw [hz2]; omega) (by omega)
  rw [this, hz1]
  rfl
theorem make_own (n : Nat) (hn : n ≤ 1000) (w : World) (b : Nat) (hb : b = w.heap.size) : Own (w.alloc (.cells (madeRow n) 5)) 0 (some ⟨b, 0, none⟩) 0 n [] := by
  subst hb
  exact ⟨World.ownsRow_made w _ n (Nat.zero_le _) (by unfold maxLen; omega) (size_madeCells _ _), (fun x hx => absurd hx List.not_mem_nil), rfl⟩
set_option maxHeartbeats 400000 in
theorem enc_bad (f : Wire.Fr) (hf : f.ok) (hs : f.sound = false) (w : World) :
    Calls Tryz.prog 46 #[fr f] w fun e w' => e = .returned (.tuple #[.slice none 0 0, .int .u16 1]) ∧ Below w.heap.size w w' := by
  obtain ⟨F, hF⟩ : ∃ F, F = f := ⟨_, rfl⟩
  rw [← hF] at hf hs
  have HF : Hid (F.ok ∧ F.sound = false) := ⟨hf, hs⟩
  have HX : Hid (F = f) := hF
  clear hf hs hF
  rw [← HX.out]
  clear HX f
  obtain ⟨k, l, s, a, b, x⟩ := F
  unfold fr
  simp only
  go_enter Tryz.func46, Tryz.ntmps46
  go_wp2_with fail
  refine (sound_is ⟨k, l, s, a, b, x⟩ HF.out.1 false HF.out.2 _).mono ?_
  rintro e w1 ⟨rfl, b1⟩
  go_wp2_with fail
  go_ret2
  exact ⟨rfl, later (fresh _ _) b1⟩
set_option maxHeartbeats 1000000 in
theorem enc_good (f : Wire.Fr) (hf : f.ok) (hs : f.sound = true) (w : World) :
    Calls Tryz.prog 46 #[fr f] w fun e w' => ∃ g cap, e = .returned (.tuple #[.slice (some ⟨g, 0, none⟩) (f.enc.length : Nat) cap, .int .u16 0]) ∧ Own w' w.heap.size (some ⟨g, 0, none⟩) f.enc.length cap f.enc ∧ Below w.heap.size w w' := by
  have HF : Hid (f.ok ∧ f.sound = true) := ⟨hf, hs⟩
  have HB : Hid (∀ w : World, Box (w.alloc (.cells #[.int .u8 f.k, .int .u8 f.l, .int .u16 f.s, .int .u8 f.a, .int .u8 f.b, .int .u32 f.x] 47)) w.heap.size f) := fun w => Box.made w f
  have hk := hf.1
  obtain ⟨n, hn, hn1, hnl⟩ : ∃ n : Nat, Wire.sizeOf f.k = n ∧ n ≤ 100 ∧ f.enc.length = n := ⟨_, rfl, by rw [Wire.sound_size hs]; split <;> omega, by rw [Wire.enc_length, Wire.sound_size hs]⟩
  have HN : Hid (Wire.sizeOf f.k = n ∧ f.enc.length = n ∧ flen f + 2 = n) := ⟨hn, hnl, by rw [← hnl, Wire.enc_length]; unfold flen; split <;> rfl⟩
  have mk := fun w => make_run n (by omega) w
  clear hf hs hn hnl
  obtain ⟨k, l, s, a, b, x⟩ := f
  simp only at hk
  unfold fr
  simp only at HB ⊢
  go_enter Tryz.func46, Tryz.ntmps46
  go_wp2_with fail
  refine (sound_is ⟨k, l, s, a, b, x⟩ HF.out.1 true HF.out.2 _).mono ?_
  rintro e w1 ⟨rfl, b1⟩
  have B1 := (HB.out w).below b1
  obtain ⟨f0, f1, f2, f3, f4, f5⟩ := id B1
  have hz : w.heap.size < w1.heap.size := B1.lt
  have HB1 : Hid (Box w1 w.heap.size ⟨k, l, s, a, b, x⟩) := B1
  clear B1 
  go_wp2_with fail
  go_region_with (first
    | (go_at_call 100; refine (size_is k hk n (by rw [HN.out.1]) _).mono ?_; rintro e w' ⟨rfl, rfl⟩)
    | (go_at_call 99; refine (fields_any w1.heap.size n ⟨k, l, s, a, b, x⟩ HF.out.1 _ ((make_own n (by omega) w1 _ rfl).below (drew_below _))).mono ?_; rintro e w2 ⟨g2, c2, rfl, o2, m2⟩)
    | (go_at_call 98; refine (wcheck_any (some g2) _ (flen ⟨k, l, s, a, b, x⟩) c2 _ (by have := HN.out; omega) _ (Onto.own o2)).mono ?_; rintro e w3 ⟨g3, c3, rfl, o3, m3⟩))
  all_goals
    go_wp2_with fail
    go_ret2
    obtain ⟨bb, hg⟩ := Moved.since (w0 := w) (later (later (later (fresh _ _) b1) (fresh _ _)) (drew_below _)) (Nat.le_of_lt hz) (m2.trans m3)
    have hl := HN.out.2.1.trans HN.out.2.2.symm
    exact ⟨g3, c3, by rw [hl]; rfl, by rw [hl]; exact o3.raise hg, bb⟩
end Go.Proofs.YtniicgbkeifnjaaGreatDoor
namespace Go.Proofs.YtniicgbkeifnjaaGreatDoor
open Go.ChangeShapes Go.WideShapes Go.ChangeAt Go.RowKit
set_option linter.unusedVariables false
set_option maxRecDepth 100000
namespace Nd
structure Raw where
  d : Int
  a : Option Addr
  n : Nat
  c : Nat
def ocells (R : List Raw) : List Value := R.flatMap fun r => [.int .i64 r.d, .slice r.a r.n r.c]
theorem ocells_append (R Q : List Raw) : ocells R ++ ocells Q = ocells (R ++ Q) := by simp [ocells]
theorem ocells_at : ∀ {R : List Raw} {j : Nat} {r : Raw}, R[j]? = some r → (ocells R)[j * 2]? = some (.int .i64 r.d) ∧ (ocells R)[j * 2 + 1]? = some (.slice r.a r.n r.c)
  | [], j, r, h => by simp at h
  | x :: t, 0, r, h => by
    simp at h
    subst h
    exact ⟨rfl, rfl⟩
  | x :: t, j + 1, r, h => by
    have : ocells (x :: t) = [.int .i64 x.d, .slice x.a x.n x.c] ++ ocells t := by simp [ocells]
    have ih := ocells_at (R := t) (j := j) (r := r) (by simpa using h)
    rw [this, List.getElem?_append_right (by simp; omega), List.getElem?_append_right (by simp; omega)]
    simp only [List.length_cons, List.length_nil]
    rw [show (j + 1) * 2 - (0 + 1 + 1) = j * 2 by omega, show (j + 1) * 2 + 1 - (0 + 1 + 1) = j * 2 + 1 by omega]
    exact ih
theorem infoO : (Tryz.prog.info? 51).map (fun i => (i.zero, i.size, i.bytes)) = some (some (.agg #[.int .i64 0, .slice none 0 0]), 2, 32) := by kernel_rfl
structure OutsAt (w : World) (G : Nat → Prop) (v : Value) (os : Outs) : Prop where
  foot : ∀ k, G k → k < w.heap.size
  raw : ∃ R : List Raw, R.length = os.length ∧ w.ownsRow 0 51 2 v R.length (ocells R) ∧ (∀ g, v.ownBlock = some g → G g) ∧
    ∀ (j : Nat) (r : Raw) (o : Int × List Nat), R[j]? = some r → os[j]? = some o → r.d = o.1 ∧ Octs w r.a r.n o.2 ∧ r.n ≤ r.c ∧ r.c ≤ 9223372036854775807 ∧ ∀ ad, r.a = some ad → G ad.block ∧ v.ownBlock ≠ some ad.block
theorem ownsRow_sans {w w' : World} {E : Nat → Prop} {base n size : Nat} {e : TypeId} {v : Value} {xs : List Value} (h : w.ownsRow base e size v n xs) (k : Sans E w w') (hn : ∀ g, v.ownBlock = some g → ¬ E g) : w'.ownsRow base e size v n xs := by
  refine ⟨h.1, ?_⟩
  rcases h.2 with h2 | ⟨g, cp, cur, e, hb, hg, r⟩
  · exact .inl h2
  · refine .inr ⟨g, cp, cur, e, hb, ?_, r⟩
    have hlt : g < w.heap.size := by
      rcases Nat.lt_or_ge g w.heap.size with h' | h'
      · exact h'
      · simp [Array.getElem?_eq_none h'] at hg
    exact (k.block g hlt (hn g (by rw [e]; rfl))).trans hg
theorem OutsAt.sans {w w' : World} {E G : Nat → Prop} {v : Value} {os : Outs} (h : OutsAt w G v os) (k : Sans E w w') (hn : ∀ j, G j → ¬ E j) : OutsAt w' G v os := by
  obtain ⟨R, h1, h2, h3, h4⟩ := h.raw
  exact ⟨fun j hj => Nat.lt_of_lt_of_le (h.foot j hj) k.size, R, h1, ownsRow_sans h2 k (fun g e => hn g (h3 g e)), h3, fun j r o hr ho => by
    obtain ⟨a1, a2, a3, a4, a5⟩ := h4 j r o hr ho
    exact ⟨a1, a2.sans k (fun ad e => hn _ (a5 ad e).1), a3, a4, a5⟩⟩
theorem OutsAt.below {w w' : World} {G : Nat → Prop} {v : Value} {os : Outs} (h : OutsAt w G v os) (k : Below w.heap.size w w') : OutsAt w' G v os := h.sans (E := fun _ => False) (Sans.of_below k) (fun _ _ e => e)
theorem OutsAt.nil (w : World) : OutsAt w (fun _ => False) (.slice none 0 0) [] :=
  ⟨fun _ e => e.elim, [], rfl, World.ownsRow_nil _ _ _ _, fun g e => by simp [Value.ownBlock] at e, fun j r o hr => by simp at hr⟩
theorem OutsAt.len {w : World} {G : Nat → Prop} {v : Value} {os : Outs} (h : OutsAt w G v os) : ∃ a cp, v = .slice a os.length cp := by
  obtain ⟨R, h1, h2, _⟩ := h.raw
  rw [← h1]
  rcases h2.2 with ⟨e, h0⟩ | ⟨g, cp, cur, e, _⟩
  · exact ⟨none, 0, by rw [e, h0]⟩
  · exact ⟨_, cp, e⟩
theorem owns_pos {w : World} {base n size : Nat} {e : TypeId} {v : Value} {xs : List Value} (h : w.ownsRow base e size v n xs) (hn : 0 < n) : ∃ g cp, v = .slice (some ⟨g, 0, none⟩) n cp ∧ g < w.heap.size := by
  rcases h.2 with ⟨_, h0⟩ | ⟨g, cp, cur, hv, hb, hg, r⟩
  · omega
  · refine ⟨g, cp, hv, ?_⟩
    rcases Nat.lt_or_ge g w.heap.size with h' | h'
    · exact h'
    · simp [Array.getElem?_eq_none h'] at hg
def bytesOf (f : Wire.Fr) : List Nat := if f.sound = true then f.enc else []
theorem enc_any {f : Wire.Fr} (hf : f.ok) (w : World) :
    Calls Tryz.prog 46 #[fr f] w fun e w' => ∃ (a : Option Addr) (n cp : Nat) (z : Int), e = .returned (.tuple #[.slice a n cp, .int .u16 z]) ∧ Octs w' a n (bytesOf f) ∧ n ≤ cp ∧ cp ≤ 9223372036854775807 ∧ (∀ ad, a = some ad → w.heap.size ≤ ad.block ∧ ad.block < w'.heap.size) ∧ Below w.heap.size w w' := by
  unfold bytesOf
  cases hs : f.sound with
  | true =>
    rw [if_pos rfl]
    refine (enc_good f hf hs w).mono ?_
    rintro e w' ⟨g, cp, rfl, ho, hB⟩
    have hc : f.enc.length ≤ cp ∧ cp ≤ maxLen := by
      rcases ho.1.2 with ⟨e, _⟩ | ⟨g', cp', cur, e, _, _, h1, h2, _⟩
      · cases e
      · simp only [Value.slice.injEq] at e
        obtain ⟨_, _, e3⟩ := e
        subst e3
        exact ⟨h1, h2⟩
    refine ⟨_, _, _, _, rfl, ho.octs, hc.1, by have := hc.2; unfold maxLen at this; omega, ?_, hB⟩
    rintro ad e
    cases e
    exact ho.1.lt g rfl
  | false =>
    rw [if_neg (by simp)]
    refine (enc_bad f hf hs w).mono ?_
    rintro e w' ⟨rfl, hB⟩
    exact ⟨none, 0, 0, 1, rfl, Octs.empty, Nat.le_refl _, by omega, (fun ad e => by cases e), hB⟩
set_option maxHeartbeats 2000000 in
set_option maxRecDepth 100000 in
theorem lay_any {w : World} {G : Nat → Prop} {v : Value} {os : Outs} {bx : Nat} (hb : w.cell? ⟨bx, 0, none⟩ = some v) (hf : w.frozen? ⟨bx, 0, none⟩ = false) (hO : OutsAt w G v os) (hG : ¬ G bx) (hlen : os.length ≤ 1000) (a0 lv : Value) (dst : Int) {f : Wire.Fr} (hok : f.ok) :
    Calls Tryz.prog 45 #[.agg #[a0, .int .i64 dst, lv], fr f, .pointer (some ⟨bx, 0, none⟩)] w fun e w' => e = .returned (.tuple #[]) ∧ ∃ v' G', w'.cell? ⟨bx, 0, none⟩ = some v' ∧ w'.frozen? ⟨bx, 0, none⟩ = false ∧ OutsAt w' G' v' (os ++ [(dst, bytesOf f)]) ∧ (∀ j, G' j → G j ∨ w.heap.size ≤ j) ∧ Sans (fun j => j = bx ∨ G j) w w' := by
  have lbx : bx < w.heap.size := cell_lt hb
  have HF : Hid f.ok := hok
  obtain ⟨W, hW⟩ : ∃ W, W = (w.alloc (.cells #[a0, .int .i64 dst, lv] 113)).alloc (.cells #[.int .u8 f.k, .int .u8 f.l, .int .u16 f.s, .int .u8 f.a, .int .u8 f.b, .int .u32 f.x] 47) := ⟨_, rfl⟩
  have HB : Hid (Below w.heap.size w W) := by rw [hW]; exact later (fresh _ _) (fresh _ _)
  have HX : Hid (Box W (w.heap.size + 1) f) := by
    have h1 := Box.made (w.alloc (.cells #[a0, .int .i64 dst, lv] 113)) f
    rw [World.size_alloc] at h1
    rw [hW]
    exact h1
  have HT : Hid (W.cell? ⟨w.heap.size, 1, none⟩ = some (.int .i64 dst)) := by
    rw [hW]
    show _ = _
    rw [(fresh (w.alloc (.cells #[a0, .int .i64 dst, lv] 113)) _).cell (p := ⟨w.heap.size, 1, none⟩) (by simp)]
    simp
  have HW1 : Hid (W.heap.size = w.heap.size + 1 + 1) := by show _ = _; rw [hW, World.size_alloc, World.size_alloc]
  have HO : Hid (OutsAt w G v os) := hO
  have Hb : Hid (w.cell? ⟨bx, 0, none⟩ = some v ∧ w.frozen? ⟨bx, 0, none⟩ = false) := ⟨hb, hf⟩
  clear hb hf hO hok
  unfold fr
  go_enter Tryz.func45, Tryz.ntmps45
  go_upto_region 1 with fail
  rw [← hW]
  clear hW
  obtain ⟨x0, x1, x2, x3, x4, x5⟩ := HX.out
  go_wp2_with fail
  refine (show Calls Tryz.prog _ #[.agg #[.int .u8 f.k, .int .u8 f.l, .int .u16 f.s, .int .u8 f.a, .int .u8 f.b, .int .u32 f.x]] W _ from enc_any HF.out W).mono ?_
  rintro e u ⟨a, n, cp, z, rfl, hoc, hncp, hcp, had, hB1⟩
  have HOc : Hid (Octs u a n (bytesOf f) ∧ n ≤ cp ∧ cp ≤ 9223372036854775807 ∧ ∀ ad, a = some ad → W.heap.size ≤ ad.block ∧ ad.block < u.heap.size) := ⟨hoc, hncp, hcp, had⟩
  have t1 : u.cell? ⟨w.heap.size, 1, none⟩ = some (.int .i64 dst) := (hB1.cell (p := ⟨w.heap.size, 1, none⟩) (cell_lt HT.out)).trans HT.out
  have HBu : Hid (Below w.heap.size w u) := later HB.out hB1
  have HWu : Hid (W.heap.size ≤ u.heap.size) := hB1.size
  have b1 : u.cell? ⟨bx, 0, none⟩ = some v := (HBu.out.cell (p := ⟨bx, 0, none⟩) lbx).trans Hb.out.1
  have b2 : u.frozen? ⟨bx, 0, none⟩ = false := (HBu.out.frozen (p := ⟨bx, 0, none⟩) lbx).trans Hb.out.2
  have HOu : Hid (OutsAt u G v os) := HO.out.below HBu.out
  clear hoc hncp hcp had hB1 x0 x1 x2 x3 x4 x5
  obtain ⟨R, r1, r2, r3, r4⟩ := HOu.out.raw
  have HR : Hid (R.length = os.length ∧ u.ownsRow 0 51 2 v R.length (ocells R) ∧ (∀ g, v.ownBlock = some g → G g) ∧ ∀ (j : Nat) (r : Raw) (o : Int × List Nat), R[j]? = some r → os[j]? = some o → r.d = o.1 ∧ Octs u r.a r.n o.2 ∧ r.n ≤ r.c ∧ r.c ≤ 9223372036854775807 ∧ ∀ ad, r.a = some ad → G ad.block ∧ v.ownBlock ≠ some ad.block) := ⟨r1, r2, r3, r4⟩
  have HRl : Hid (R.length ≤ 1000) := by show _ ≤ _; omega
  clear r1 r2 r3 r4
  have HN1 : Hid ((u.alloc (.cells #[.int .i64 dst, .slice a n cp] 51)).ownsRow 0 51 2 v R.length (ocells R)) := owns_below HR.out.2.1 (fresh _ _)
  have HN2 : Hid (∀ (j : Nat) (y : Value), [Value.int .i64 dst, .slice a n cp][j]? = some y → (u.alloc (.cells #[.int .i64 dst, .slice a n cp] 51)).cell? ((⟨u.heap.size, 0, none⟩ : Addr).add j) = some y) := by
    intro j y hy
    rw [add_lit]
    match j with
    | 0 => simpa using hy
    | 1 => simpa using hy
    | (j + 2) => simp at hy
  have HN3 : Hid (∀ y ∈ [Value.int .i64 dst, .slice a n cp], y.oneCell' = true) := by
    intro y hy
    simp only [List.mem_cons, List.not_mem_nil, or_false] at hy
    rcases hy with rfl | rfl <;> rfl
  go_wp2_with (at_builtin; refine wpList_append_v rfl (.tmp 12) (.tmp 17) 44 51 rfl _ 2 32 Tryz.underlying44 infoO rfl (by decide) 0 v R.length (ocells R) rfl HN1.out (Nat.zero_le _) (some ⟨u.heap.size, 0, none⟩) 1 1 [.int .i64 dst, .slice a n cp] rfl rfl (fun e => by cases e) (.inr ⟨_, rfl, HN2.out⟩) HN3.out (by have := HRl.out; unfold maxLen; omega) (by have := HRl.out; omega) ?_; intro v' w2 hown hB2 hg hat; obtain ⟨g, cg, rfl, hgl⟩ := owns_pos hown (Nat.succ_pos _); have HV : Hid (w2.ownsRow 0 51 2 (.slice (some ⟨g, 0, none⟩) (R.length + 1) cg) (R.length + 1) (ocells R ++ [.int .i64 dst, .slice a n cp]) ∧ (v.ownBlock = some g ∨ g = u.heap.size + 1) ∧ g < w2.heap.size) := ⟨hown, hat.imp (fun e => e.symm.trans rfl |>.trans rfl) (fun e => by simpa [Value.ownBlock] using e), hgl⟩; have HSv : Hid (Sans (fun k => v.ownBlock = some k) u w2) := (Sans.of_below (fresh _ _)).then (Sans.of_grown hg (fun k e => e)); have HS2 : Hid (Sans G u w2) := HSv.out.mono (fun k e => HR.out.2.2.1 k e); clear hown hB2 hg hat hgl; have HS3 : Hid (Sans G w w2) := (Sans.of_below HBu.out).then HS2.out; have e1 : w2.cell? ⟨bx, 0, none⟩ = some v := (HS3.out.cell (p := ⟨bx, 0, none⟩) lbx hG).trans Hb.out.1; have e2 : w2.frozen? ⟨bx, 0, none⟩ = false := (HS3.out.frozen (p := ⟨bx, 0, none⟩) lbx hG).trans Hb.out.2)
  refine bodyPost_end (results_none rfl _ _ _) rfl ?_
  have S2 : Sans (fun j => j = bx) w2 (w2.setCell ⟨bx, 0, none⟩ (.slice (some ⟨g, 0, none⟩) (R.length + 1) cg)) := Sans.of_set _ _ _ rfl
  have hgb : g ≠ bx := by
    rcases HV.out.2.1 with e | e
    · exact fun e2 => hG (e2 ▸ HR.out.2.2.1 g e)
    · have := HBu.out.size
      omega
  have huG : ∀ j, G j → j < w.heap.size := HO.out.foot
  have hu : w.heap.size ≤ u.heap.size := HBu.out.size
  have hu2 : u.heap.size + 1 ≤ w2.heap.size ∨ True := .inr trivial
  refine ⟨rfl, _, fun j => G j ∨ j = g ∨ ∃ ad, a = some ad ∧ ad.block = j, World.cell?_setCell_same _ _ _ e1, by rw [World.frozen?_setCell]; exact e2, ⟨?_, R ++ [⟨dst, a, n, cp⟩], ?_, ?_, ?_, ?_⟩, ?_, (HS3.out.mono (fun j e => .inr e)).then (S2.mono (fun j e => .inl e))⟩
  · rintro j (e | e | ⟨ad, e, rfl⟩)
    · exact Nat.lt_of_lt_of_le (HO.out.foot j e) (Nat.le_trans HS3.out.size S2.size)
    · rw [e]; exact Nat.lt_of_lt_of_le HV.out.2.2 S2.size
    · exact Nat.lt_of_lt_of_le (HOc.out.2.2.2 ad e).2 (Nat.le_trans HS2.out.size S2.size)
  · rw [List.length_append, List.length_append, HR.out.1]; rfl
  · have h1 := HV.out.1
    rw [show ocells R ++ [Value.int .i64 dst, .slice a n cp] = ocells (R ++ [⟨dst, a, n, cp⟩]) by rw [← ocells_append]; rfl] at h1
    rw [List.length_append]
    exact ownsRow_sans h1 S2 (fun k e => by simp only [Value.ownBlock, Option.some.injEq] at e; subst e; exact hgb)
  · intro k e
    simp only [Value.ownBlock, Option.some.injEq] at e
    exact .inr (.inl e.symm)
  · intro j r o hr ho
    by_cases hj : j < R.length
    · rw [List.getElem?_append_left hj] at hr
      rw [List.getElem?_append_left (by rw [← HR.out.1]; exact hj)] at ho
      obtain ⟨a1, a2, a3, a4, a5⟩ := HR.out.2.2.2 j r o hr ho
      refine ⟨a1, (a2.sans HSv.out (fun ad e => (a5 ad e).2)).sans S2 (fun ad e e2 => hG (e2 ▸ (a5 ad e).1)), a3, a4, fun ad e => ⟨.inl (a5 ad e).1, fun e2 => ?_⟩⟩
      simp only [Value.ownBlock, Option.some.injEq] at e2
      rcases HV.out.2.1 with e3 | e3
      · exact (a5 ad e).2 (by rw [e3, e2])
      · have := huG _ (a5 ad e).1
        omega
    · rw [List.getElem?_append_right (by omega)] at hr
      rw [List.getElem?_append_right (by rw [← HR.out.1]; omega)] at ho
      have hz : j - R.length = 0 := by
        have := (List.getElem?_eq_some_iff.1 hr).1
        simp at this
        omega
      rw [hz] at hr
      rw [← HR.out.1, hz] at ho
      simp only [List.getElem?_cons_zero, Option.some.injEq] at hr ho
      subst hr
      subst ho
      refine ⟨rfl, (HOc.out.1.sans HSv.out (fun ad e e2 => ?_)).sans S2 (fun ad e e2 => ?_), HOc.out.2.1, HOc.out.2.2.1, fun ad e => ⟨.inr (.inr ⟨ad, e, rfl⟩), fun e2 => ?_⟩⟩
      · have h1 := huG _ (HR.out.2.2.1 _ e2)
        have h2 := (HOc.out.2.2.2 ad e).1
        have h3 := HB.out.size
        omega
      · have h2 := (HOc.out.2.2.2 ad e).1
        have h3 := HB.out.size
        have h4 : ad.block = bx := e2
        omega
      · simp only [Value.ownBlock, Option.some.injEq] at e2
        have h2 := HOc.out.2.2.2 ad e
        have h3 := HB.out.size
        rcases HV.out.2.1 with e3 | e3
        · have h1 := huG _ (HR.out.2.2.1 _ e3)
          omega
        · omega
  · rintro j (e | e | ⟨ad, e, rfl⟩)
    · exact .inl e
    · rw [e]
      exact HV.out.2.1.elim (fun e => .inl (HR.out.2.2.1 g e)) (fun e => .inr (by omega))
    · exact .inr (Nat.le_trans HB.out.size (HOc.out.2.2.2 ad e).1)
end Nd
end Go.Proofs.YtniicgbkeifnjaaGreatDoor
