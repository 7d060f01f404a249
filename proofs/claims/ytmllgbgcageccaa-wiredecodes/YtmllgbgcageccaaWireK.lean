/-
  The helpers Make and known of package shunterlaw03 come to a sound frame and to true. Conditions: none but that the numbers are of their kinds.
-/
import Derived.Test.YtmllgbgcageccaaWireG
import Derived.Deep.RegionHeld3
namespace Go.Proofs.Ytmllgbgcageccaa
open Go.ChangeShapes Go.WideShapes Go.ChangeAt Go.RowKit
set_option linter.unusedVariables false

theorem Own.cap {w : World} {base g len cap : Nat} {l : List Nat} (h : Own w base (some ⟨g, 0, none⟩) len cap l) : len ≤ cap ∧ cap ≤ 9223372036854775807 := by
  rcases h.1.2 with ⟨e, _⟩ | ⟨g', c, cur, e, _, _, h1, h2, _⟩
  · cases e
  · have : cap = c := by simp only [Value.slice.injEq] at e; exact e.2.2
    subst this
    unfold maxLen at h2
    exact ⟨h1, h2⟩
theorem decode_is (a : Option Addr) (len cap : Nat) (l : List Nat) (w : World) (ho : Octs w a len l) (hlc : len ≤ cap ∧ cap ≤ 9223372036854775807) (v : Value) (hv : decVal .u16 l = v) :
    Calls Try.prog 19 #[.slice a len cap] w fun e w' => e = .returned v ∧ Below w.heap.size w w' := by
  subst hv; exact decode_any a len cap l w ho hlc.1 hlc.2
def kn : List Nat := Wire.Fr.enc ⟨2, 1, 258, 0, 0, 0⟩
theorem kn_ok : (⟨2, 1, 258, 0, 0, 0⟩ : Wire.Fr).ok := by unfold Wire.Fr.ok; simp
theorem kn_sound : (⟨2, 1, 258, 0, 0, 0⟩ : Wire.Fr).sound = true := rfl
theorem kn_len : kn.length = 6 := by unfold kn; rw [Wire.enc_length]; rfl
theorem enc_known (w : World) : Calls Try.prog 14 #[.agg #[.int .u8 2, .int .u8 1, .int .u16 258, .int .u8 0, .int .u8 0, .int .u32 0]] w fun e w' => ∃ g cap, e = .returned (.tuple #[.slice (some ⟨g, 0, none⟩) 6 cap, .int .u16 0]) ∧ Own w' w.heap.size (some ⟨g, 0, none⟩) 6 cap kn ∧ Below w.heap.size w w' := by
  have := enc_good ⟨2, 1, 258, 0, 0, 0⟩ kn_ok kn_sound w
  rw [show (Wire.Fr.enc ⟨2, 1, 258, 0, 0, 0⟩).length = 6 from kn_len] at this
  exact this
theorem dec_known : decVal .u16 kn = .tuple #[.agg #[.int .u8 2, .int .u8 1, .int .u16 258, .int .u8 0, .int .u8 0, .int .u32 0], .int .u16 0] := good_val (Wire.dec_enc kn_ok kn_sound)
theorem dec_none : decVal .u16 [] = .tuple #[.agg #[.int .u8 0, .int .u8 0, .int .u16 0, .int .u8 0, .int .u8 0, .int .u32 0], .int .u16 30] := bad_val Wire.dec_nil
theorem sound_known (w : World) : Calls Try.prog 16 #[.agg #[.int .u8 2, .int .u8 1, .int .u16 258, .int .u8 0, .int .u8 0, .int .u32 0]] w fun e w' => e = .returned (.bool true) ∧ Below w.heap.size w w' := sound_any ⟨2, 1, 258, 0, 0, 0⟩ kn_ok w
theorem kn_take {w : World} {base g cap : Nat} (h : Own w base (some ⟨g, 0, none⟩) 6 cap kn) : (convert 27 9 (.slice (some ⟨g, 0, none⟩) 4 cap)).run Try.prog w = .ok (.string ⟨#[2, 1, 1, 2]⟩) w := by
  have := str_run (cap := cap) (h.octs.take (n := 4) (by omega))
  rw [show kn.take 4 = [2, 1, 1, 2] from rfl] at this
  exact this
set_option maxHeartbeats 1000000 in
theorem known_any (w : World) : Calls Try.prog 15 #[] w fun e w' => e = .returned (.bool true) ∧ Below w.heap.size w w' := by
  go_enter Try.func15, Try.ntmps15
  go_wp2_with fail
  refine (enc_known _).mono ?_
  rintro e w1 ⟨g, c, rfl, o1, b1⟩
  have hcap := o1.cap
  have hc1 : 4 ≤ c := by omega
  have hc2 : c ≤ 9223372036854775807 := by omega
  go_wp2_with fail
  refine (decode_is _ _ _ kn _ o1.octs hcap _ dec_known).mono ?_
  rintro e w2 ⟨rfl, b2⟩
  go_wp2_with fail
  refine (decode_is _ _ _ [] _ Octs.empty ⟨Nat.le_refl _, by omega⟩ _ dec_none).mono ?_
  rintro e w3 ⟨rfl, b3⟩
  have k3 := kn_take (((o1.below b2).below (fresh _ _)).below b3 |>.below (fresh _ (.cells #[.int .u8 0, .int .u8 0, .int .u16 0, .int .u8 0, .int .u8 0, .int .u32 0] 25)))
  obtain ⟨hc3, hf3⟩ := bcell b3
  have hz : w2.heap.size < w3.heap.size := by have := b3.size; simp at this; omega
  clear hcap
  go_wp2_with fail
  refine (sound_known _).mono ?_
  rintro e w4 ⟨rfl, b4⟩
  clear k3 hc3 hf3
  go_wp2_with fail
  go_ret
  exact ⟨rfl, later (later (later (later (later b1 b2) (fresh _ _)) b3) (fresh _ _)) b4⟩

/-- the sound frame that choices make -/
def mkFr (k l s a b x : Nat) : Wire.Fr := if k % 3 = 0 then ⟨1, l % 3, s, a % 6, (a % 6 + 1 + b % 5) % 6, x⟩ else ⟨1 + k % 3, l % 3, s, 0, 0, 0⟩
theorem mk_sound (k l s a b x : Nat) : (mkFr k l s a b x).sound = true := by
  unfold mkFr
  by_cases h : k % 3 = 0
  · rw [if_pos h, Wire.Fr.sound_iff]
    simp only
    have h1 : l % 3 < 3 := by omega
    have h2 : a % 6 < 6 := by omega
    have h3 : (a % 6 + 1 + b % 5) % 6 < 6 := by omega
    have h4 : a % 6 ≠ (a % 6 + 1 + b % 5) % 6 := by omega
    exact ⟨h1, .inl ⟨trivial, h2, h3, h4⟩⟩
  · rw [if_neg h, Wire.Fr.sound_iff]
    simp only
    have h1 : l % 3 < 3 := by omega
    have h2 : 1 + k % 3 = 2 ∨ 1 + k % 3 = 3 := by omega
    exact ⟨h1, .inr ⟨h2, trivial, trivial, trivial⟩⟩
theorem mk_ok (k l s a b x : Nat) (hs : s < 65536) (hx : x < 4294967296) : (mkFr k l s a b x).ok := by
  unfold mkFr
  by_cases h : k % 3 = 0
  · rw [if_pos h]; unfold Wire.Fr.ok; simp only; omega
  · rw [if_neg h]; unfold Wire.Fr.ok; simp only; omega
theorem mk_kind (k l s a b x : Nat) : (mkFr k l s a b x).k = 1 + k % 3 := by
  unfold mkFr
  split <;> simp only
  omega
theorem mk_seq (k l s a b x : Nat) : (mkFr k l s a b x).s = s := by
  unfold mkFr
  split <;> rfl
theorem mk_body (k l s a b x : Nat) (h : (mkFr k l s a b x).k = 1) : (mkFr k l s a b x).x = x := by
  rw [mk_kind] at h
  unfold mkFr
  rw [if_pos (by omega)]
set_option maxHeartbeats 1000000 in
theorem make_any (k l s a b x : Nat) (hk : k < 256) (hl : l < 256) (hs : s < 65536) (ha : a < 256) (hb : b < 256) (hx : x < 4294967296) (w : World) :
    Calls Try.prog 13 #[.int .u8 k, .int .u8 l, .int .u16 s, .int .u8 a, .int .u8 b, .int .u32 x] w fun e w' => e = .returned (fr (mkFr k l s a b x)) ∧ Below w.heap.size w w' := by
  unfold fr mkFr
  by_cases h : k % 3 = 0
  · rw [if_pos h]
    simp only
    have hq : ((1 + (k : Int) % 3) == 1) = true := by simp; omega
    go_enter Try.func13, Try.ntmps13
    go_wp2_with fail
    exact bodyPost_ret (v := .agg #[.int .u8 (1 : Nat), .int .u8 (l % 3 : Nat), .int .u16 (s : Nat), .int .u8 (a % 6 : Nat), .int .u8 ((a % 6 + 1 + b % 5) % 6 : Nat), .int .u32 (x : Nat)]) (by simp [results, Try.results13, go_sem]; omega) rfl ⟨rfl, (by repeat' (first | (with_reducible exact Below.refl _ _) | (with_reducible refine Below.setCell ?_ ?_ _) | (with_reducible refine Below.drewN' ?_ _) | (with_reducible refine Below.drew ?_) | (with_reducible refine Below.alloc ?_ ?_ _) | (simp; done)))⟩
  · rw [if_neg h]
    simp only
    have hq : ((1 + (k : Int) % 3) == 1) = false := by simp; omega
    go_enter Try.func13, Try.ntmps13
    go_wp2_with fail
    exact bodyPost_ret (v := .agg #[.int .u8 (1 + k % 3 : Nat), .int .u8 (l % 3 : Nat), .int .u16 (s : Nat), .int .u8 0, .int .u8 0, .int .u32 0]) (by simp [results, Try.results13, go_sem]) rfl ⟨rfl, (by repeat' (first | (with_reducible exact Below.refl _ _) | (with_reducible refine Below.setCell ?_ ?_ _) | (with_reducible refine Below.drewN' ?_ _) | (with_reducible refine Below.drew ?_) | (with_reducible refine Below.alloc ?_ ?_ _) | (simp; done)))⟩
theorem make_is (k l s a b x : Nat) (h : k < 256 ∧ l < 256 ∧ s < 65536 ∧ a < 256 ∧ b < 256 ∧ x < 4294967296) (F : Wire.Fr) (hF : mkFr k l s a b x = F) (w : World) :
    Calls Try.prog 13 #[.int .u8 k, .int .u8 l, .int .u16 s, .int .u8 a, .int .u8 b, .int .u32 x] w fun e w' => e = .returned (fr F) ∧ Below w.heap.size w w' := by
  subst hF; exact make_any k l s a b x h.1 h.2.1 h.2.2.1 h.2.2.2.1 h.2.2.2.2.1 h.2.2.2.2.2 w
theorem enc_is (f : Wire.Fr) (hf : f.ok ∧ f.sound = true) (n : Nat) (hn : f.enc.length = n) (w : World) :
    Calls Try.prog 14 #[fr f] w fun e w' => ∃ g cap, e = .returned (.tuple #[.slice (some ⟨g, 0, none⟩) n cap, .int .u16 0]) ∧ Own w' w.heap.size (some ⟨g, 0, none⟩) n cap f.enc ∧ Below w.heap.size w w' := by
  subst hn; exact enc_good f hf.1 hf.2 w
/-- a frame that choices make -/
theorem made (k l s a b x : Nat) (hs : s < 65536) (hx : x < 4294967296) : ∃ F, mkFr k l s a b x = F ∧ F.ok ∧ F.sound = true ∧ F.s = s ∧ (F.k = 1 → F.x = x) :=
  ⟨_, rfl, mk_ok k l s a b x hs hx, mk_sound k l s a b x, mk_seq k l s a b x, mk_body k l s a b x⟩
end Go.Proofs.Ytmllgbgcageccaa
