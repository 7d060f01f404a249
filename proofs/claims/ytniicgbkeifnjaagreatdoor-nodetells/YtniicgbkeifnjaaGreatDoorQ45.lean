/-
  Contracts and plain facts that the walks lean on (WireH). Conditions: none but those that each states.
-/
import Derived.Test.YtniicgbkeifnjaaGreatDoorQ42
namespace Go.Proofs.YtniicgbkeifnjaaGreatDoor
open Go.ChangeShapes Go.WideShapes Go.ChangeAt Go.RowKit
set_option linter.unusedVariables false
set_option maxRecDepth 100000
theorem own_lit (w : World) (l : List Nat) (o : Crc.Oct l) (hl : l.length ≤ 1000) (b : Nat) (hb : b = w.heap.size) : Own (w.alloc (.cells (cellsOf l).toArray 5)) 0 (some ⟨b, 0, none⟩) l.length l.length l := by
  subst hb
  refine ⟨⟨by rw [cellsOf_length, Nat.mul_one], .inr ⟨w.heap.size, l.length, (cellsOf l).toArray, rfl, Nat.zero_le _, heap_alloc_new w _, Nat.le_refl _, by unfold maxLen; omega, by simp [cellsOf_length], ?_⟩⟩, o, rfl⟩
  simp [← cellsOf_length l]
theorem four_own (w : World) (x0 x1 x2 x3 : Int) (c0 c1 c2 c3 : Nat) (h0 : x0 = c0) (h1 : x1 = c1) (h2 : x2 = c2) (h3 : x3 = c3) (o : c0 < 256 ∧ c1 < 256 ∧ c2 < 256 ∧ c3 < 256) (b : Nat) (hb : b = w.heap.size) :
    Own (w.alloc (.cells #[.int .u8 x0, .int .u8 x1, .int .u8 x2, .int .u8 x3] 5)) 0 (some ⟨b, 0, none⟩) 4 4 [c0, c1, c2, c3] := by
  subst h0 h1 h2 h3
  exact own_lit w [c0, c1, c2, c3] (by intro y hy; simp only [List.mem_cons, List.not_mem_nil, or_false] at hy; omega) (by simp) b hb
theorem six_octs (w : World) (x0 x1 x2 x3 x4 x5 : Int) (c0 c1 c2 c3 c4 c5 : Nat) (h0 : x0 = c0) (h1 : x1 = c1) (h2 : x2 = c2) (h3 : x3 = c3) (h4 : x4 = c4) (h5 : x5 = c5) (o : c0 < 256 ∧ c1 < 256 ∧ c2 < 256 ∧ c3 < 256 ∧ c4 < 256 ∧ c5 < 256) (b : Nat) (hb : b = w.heap.size) :
    Octs (w.alloc (.cells #[.int .u8 x0, .int .u8 x1, .int .u8 x2, .int .u8 x3, .int .u8 x4, .int .u8 x5] 5)) (some ⟨b, 0, none⟩) 6 [c0, c1, c2, c3, c4, c5] := by
  subst h0 h1 h2 h3 h4 h5
  exact (own_lit w [c0, c1, c2, c3, c4, c5] (by intro y hy; simp only [List.mem_cons, List.not_mem_nil, or_false] at hy; omega) (by simp) b hb).octs
theorem refSound_is (f : Wire.Fr) (hf : f.ok) (b : Bool) (hb : f.sound = b) (w : World) :
    Calls Tryz.prog 77 #[fr f] w fun e w' => e = .returned (.bool b) ∧ Below w.heap.size w w' := by
  subst hb; exact refSound_any f hf w
set_option maxHeartbeats 400000 in
theorem refEnc_bad (f : Wire.Fr) (hf : f.ok) (hs : f.sound = false) (w : World) :
    Calls Tryz.prog 31 #[fr f] w fun e w' => e = .returned (.tuple #[.slice none 0 0, .int .i64 1]) ∧ Below w.heap.size w w' := by
  have HF : Hid (f.ok ∧ f.sound = false) := ⟨hf, hs⟩
  clear hf hs
  obtain ⟨k, l, s, a, b, x⟩ := f
  unfold fr
  simp only
  go_enter Tryz.func31, Tryz.ntmps31
  go_wp2_with fail
  refine (refSound_is ⟨k, l, s, a, b, x⟩ HF.out.1 false HF.out.2 _).mono ?_
  rintro e w1 ⟨rfl, b1⟩
  go_wp2_with fail
  go_ret2
  exact ⟨rfl, later (fresh _ _) b1⟩
set_option maxHeartbeats 1000000 in
theorem refEnc_good (f : Wire.Fr) (hf : f.ok) (hs : f.sound = true) (w : World) :
    Calls Tryz.prog 31 #[fr f] w fun e w' => ∃ g cap, e = .returned (.tuple #[.slice (some ⟨g, 0, none⟩) (f.enc.length : Nat) cap, .int .i64 0]) ∧ Own w' w.heap.size (some ⟨g, 0, none⟩) f.enc.length cap f.enc ∧ Below w.heap.size w w' := by
  have HF : Hid (f.ok ∧ f.sound = true) := ⟨hf, hs⟩
  have HB : Hid (∀ w : World, Box (w.alloc (.cells #[.int .u8 f.k, .int .u8 f.l, .int .u16 f.s, .int .u8 f.a, .int .u8 f.b, .int .u32 f.x] 47)) w.heap.size f) := fun w => Box.made w f
  obtain ⟨h1, h2, h3, h4, h5, h6⟩ := hf
  clear hs
  by_cases hk : f.k = 1
  · have HE : Hid (f.enc.length = 12 ∧ f.fields = [f.k, f.l, f.s / 256, f.s % 256] ++ [f.a, f.b, f.x / 16777216, f.x / 65536 % 256, f.x / 256 % 256, f.x % 256]) := by
      refine ⟨by rw [Wire.enc_length, if_pos hk], ?_⟩
      unfold Wire.Fr.fields Wire.Fr.tail
      rw [if_pos hk]; rfl
    have hkb : ((f.k : Int) == 1) = true := by rw [hk]; rfl
    clear hk
    obtain ⟨k, l, s, a, b, x⟩ := f
    simp only at h1 h2 h3 h4 h5 h6 hkb
    unfold fr
    simp only at HB ⊢
    go_enter Tryz.func31, Tryz.ntmps31
    go_wp2_with fail
    refine (refSound_is ⟨k, l, s, a, b, x⟩ HF.out.1 true HF.out.2 _).mono ?_
    rintro e w1 ⟨rfl, b1⟩
    have B1 := (HB.out w).below b1
    obtain ⟨f0, f1, f2, f3, f4, f5⟩ := id B1
    have hz : w.heap.size < w1.heap.size := B1.lt
    clear B1
    go_wp2_with (at_builtin; refine wpList_append_onto rfl _ _ rfl (some w1.heap.size) (some ⟨w1.heap.size, 0, none⟩) 4 4 [k, l, s / 256, s % 256] rfl (Onto.own ((four_own w1 _ _ _ _ k l (s / 256) (s % 256) rfl rfl (by omega) (by omega) (by omega) _ rfl).below (fresh _ _))) _ 0 6 6 [a, b, x / 16777216, x / 65536 % 256, x / 256 % 256, x % 256] rfl (six_octs _ _ _ _ _ _ _ a b (x / 16777216) (x / 65536 % 256) (x / 256 % 256) (x % 256) rfl rfl (by omega) (by omega) (by omega) (by omega) (by omega) _ (by simp)) (by omega) (by omega) 10 rfl _ rfl ?_; intro g2 c2 w2 o2 m2)
    refine (ref_any _ _ _ _ _ o2.octs).mono ?_
    rintro e w3 ⟨rfl, rfl⟩
    obtain ⟨N, hN⟩ : ∃ N, N = Crc.crc ([k, l, s / 256, s % 256] ++ [a, b, x / 16777216, x / 65536 % 256, x / 256 % 256, x % 256]) := ⟨_, rfl⟩
    have hN6 : N < 65536 := by rw [hN]; exact Crc.crc_lt o2.2.1
    rw [← hN]
    have HN : Hid (N = Crc.crc ([k, l, s / 256, s % 256] ++ [a, b, x / 16777216, x / 65536 % 256, x / 256 % 256, x % 256])) := hN
    clear hN
    go_wp2_with (at_builtin; refine wpList_append_onto rfl _ _ rfl (some g2) _ 10 c2 _ rfl (Onto.own (o2.below (fresh _ _))) _ 0 2 2 [N / 256, N % 256] rfl (two_on _ _ _ _ _ (by omega) (by omega) (by omega) (by omega) _ rfl) (by omega) (by omega) 12 rfl _ rfl ?_; intro g4 c4 w4 o4 m4)
    go_ret2
    obtain ⟨bb, hg⟩ := Moved.since (w0 := w) (later (later (later (fresh _ _) b1) (fresh _ _)) (fresh _ _)) (Nat.le_of_lt hz) (m2.trans (Moved.ahead (fresh _ _) m4))
    exact ⟨g4, c4, by rw [HE.out.1]; rfl, by rw [HE.out.1, show Wire.Fr.enc ⟨k, l, s, a, b, x⟩ = Wire.withCheck (Wire.Fr.fields ⟨k, l, s, a, b, x⟩) from rfl, HE.out.2]; unfold Wire.withCheck Wire.be; rw [← HN.out]; exact o4.raise hg, bb⟩
  · have HE : Hid (f.enc.length = 6 ∧ f.fields = [f.k, f.l, f.s / 256, f.s % 256]) := by
      refine ⟨by rw [Wire.enc_length, if_neg hk], ?_⟩
      unfold Wire.Fr.fields Wire.Fr.tail
      rw [if_neg hk, List.append_nil]
    have hkb : ((f.k : Int) == 1) = false := by simp; omega
    clear hk
    obtain ⟨k, l, s, a, b, x⟩ := f
    simp only at h1 h2 h3 h4 h5 h6 hkb
    unfold fr
    simp only at HB ⊢
    go_enter Tryz.func31, Tryz.ntmps31
    go_wp2_with fail
    refine (refSound_is ⟨k, l, s, a, b, x⟩ HF.out.1 true HF.out.2 _).mono ?_
    rintro e w1 ⟨rfl, b1⟩
    have B1 := (HB.out w).below b1
    obtain ⟨f0, f1, f2, f3, f4, f5⟩ := id B1
    have hz : w.heap.size < w1.heap.size := B1.lt
    clear B1
    go_wp2_with fail
    have o2 := four_own w1 _ _ _ _ k l (s / 256) (s % 256) rfl rfl (show (s : Int) / 256 = _ by omega) (show (s : Int) % 256 = _ by omega) (by omega) _ rfl
    refine (ref_any _ _ _ _ _ o2.octs).mono ?_
    rintro e w3 ⟨rfl, rfl⟩
    obtain ⟨N, hN⟩ : ∃ N, N = Crc.crc [k, l, s / 256, s % 256] := ⟨_, rfl⟩
    have hN6 : N < 65536 := by rw [hN]; exact Crc.crc_lt o2.2.1
    rw [← hN]
    have HN : Hid (N = Crc.crc [k, l, s / 256, s % 256]) := hN
    clear hN
    go_wp2_with (at_builtin; refine wpList_append_onto rfl _ _ rfl (some w1.heap.size) _ 4 4 _ rfl (Onto.own (o2.below (fresh _ _))) _ 0 2 2 [N / 256, N % 256] rfl (two_on _ _ _ _ _ (by omega) (by omega) (by omega) (by omega) _ (by simp)) (by omega) (by omega) 6 rfl _ rfl ?_; intro g4 c4 w4 o4 m4)
    go_ret2
    obtain ⟨bb, hg⟩ := Moved.since (w0 := w) (later (later (fresh _ _) b1) (fresh _ _)) (Nat.le_of_lt hz) (Moved.ahead (fresh _ _) m4)
    exact ⟨g4, c4, by rw [HE.out.1]; rfl, by rw [HE.out.1, show Wire.Fr.enc ⟨k, l, s, a, b, x⟩ = Wire.withCheck (Wire.Fr.fields ⟨k, l, s, a, b, x⟩) from rfl, HE.out.2]; unfold Wire.withCheck Wire.be; rw [← HN.out]; exact o4.raise hg, bb⟩
end Go.Proofs.YtniicgbkeifnjaaGreatDoor
