/-
  wire.Encode of any frame comes to its bytes, or to the error. Conditions: none but that the numbers are of their kinds.
-/
import Derived.Test.YtmllgbgcageccaaWireB
import Derived.Laws.MakeOwn
namespace Go.Proofs.Ytmllgbgcageccaa
open Go.ChangeShapes Go.WideShapes Go.ChangeAt Go.RowKit
set_option linter.unusedVariables false

theorem size_is (k : Nat) (hk : k < 256) (n : Int) (hn : ((Wire.sizeOf k : Nat) : Int) = n) (w : World) :
    Calls Try.prog 23 #[.int .u8 k] w fun e w' => e = .returned (.int .i64 n) ∧ w' = w := by
  subst hn; exact size_any k hk w
theorem sound_is (f : Wire.Fr) (hf : f.ok) (b : Bool) (hb : f.sound = b) (w : World) :
    Calls Try.prog 16 #[fr f] w fun e w' => e = .returned (.bool b) ∧ Below w.heap.size w w' := by
  subst hb; exact sound_any f hf w
theorem drew_below (w : World) : Below w.heap.size w w.drew := (Below.refl _ _).drew
def madeRow (n : Nat) : Array Value := madeCells (Value.int .u8 0).cells (n * 1)
theorem make_run (n : Nat) (hn : n ≤ 1000) (w : World) : (Instr.makeSlice 27 (.int .i64 0) (.int .i64 (n : Int))).run Try.prog w = .ok (.slice (some ⟨w.heap.size, 0, none⟩) 0 n) (w.alloc (.cells (madeRow n) 5)) := by
  obtain ⟨i0, hi, hz0, hz1, hz2⟩ := info_parts info8
  have := run_make (P := Try.prog) w 27 5 i0 (.int .u8 0) Try.underlying27 hi hz0 .i64 .i64 0 n (by omega) (by omega) (by rw [hz2]; omega) (by omega)
  rw [this, hz1]
  rfl
theorem make_own (n : Nat) (hn : n ≤ 1000) (w : World) (b : Nat) (hb : b = w.heap.size) : Own (w.alloc (.cells (madeRow n) 5)) 0 (some ⟨b, 0, none⟩) 0 n [] := by
  subst hb
  exact ⟨World.ownsRow_made w _ n (Nat.zero_le _) (by unfold maxLen; omega) (size_madeCells _ _), (fun x hx => absurd hx List.not_mem_nil), rfl⟩
set_option maxHeartbeats 400000 in
theorem enc_bad (f : Wire.Fr) (hf : f.ok) (hs : f.sound = false) (w : World) :
    Calls Try.prog 14 #[fr f] w fun e w' => e = .returned (.tuple #[.slice none 0 0, .int .u16 1]) ∧ Below w.heap.size w w' := by
  obtain ⟨F, hF⟩ : ∃ F, F = f := ⟨_, rfl⟩
  rw [← hF] at hf hs
  have HF : Hid (F.ok ∧ F.sound = false) := ⟨hf, hs⟩
  have HX : Hid (F = f) := hF
  clear hf hs hF
  rw [← HX.out]
  clear HX f
  obtain ⟨k, l, s, a, b, x⟩ := F
  unfold fr
  simp only
  go_enter Try.func14, Try.ntmps14
  go_wp2_with fail
  refine (sound_is ⟨k, l, s, a, b, x⟩ HF.out.1 false HF.out.2 _).mono ?_
  rintro e w1 ⟨rfl, b1⟩
  go_wp2_with fail
  go_ret2
  exact ⟨rfl, later (fresh _ _) b1⟩
set_option maxHeartbeats 1000000 in
theorem enc_good (f : Wire.Fr) (hf : f.ok) (hs : f.sound = true) (w : World) :
    Calls Try.prog 14 #[fr f] w fun e w' => ∃ g cap, e = .returned (.tuple #[.slice (some ⟨g, 0, none⟩) (f.enc.length : Nat) cap, .int .u16 0]) ∧ Own w' w.heap.size (some ⟨g, 0, none⟩) f.enc.length cap f.enc ∧ Below w.heap.size w w' := by
  have HF : Hid (f.ok ∧ f.sound = true) := ⟨hf, hs⟩
  have HB : Hid (∀ w : World, Box (w.alloc (.cells #[.int .u8 f.k, .int .u8 f.l, .int .u16 f.s, .int .u8 f.a, .int .u8 f.b, .int .u32 f.x] 25)) w.heap.size f) := fun w => Box.made w f
  have hk := hf.1
  obtain ⟨n, hn, hn1, hnl⟩ : ∃ n : Nat, Wire.sizeOf f.k = n ∧ n ≤ 100 ∧ f.enc.length = n := ⟨_, rfl, by rw [Wire.sound_size hs]; split <;> omega, by rw [Wire.enc_length, Wire.sound_size hs]⟩
  have HN : Hid (Wire.sizeOf f.k = n ∧ f.enc.length = n ∧ flen f + 2 = n) := ⟨hn, hnl, by rw [← hnl, Wire.enc_length]; unfold flen; split <;> rfl⟩
  have mk := fun w => make_run n (by omega) w
  clear hf hs hn hnl
  obtain ⟨k, l, s, a, b, x⟩ := f
  simp only at hk
  unfold fr
  simp only at HB ⊢
  go_enter Try.func14, Try.ntmps14
  go_wp2_with fail
  refine (sound_is ⟨k, l, s, a, b, x⟩ HF.out.1 true HF.out.2 _).mono ?_
  rintro e w1 ⟨rfl, b1⟩
  have B1 := (HB.out w).below b1
  obtain ⟨f0, f1, f2, f3, f4, f5⟩ := id B1
  have hz : w.heap.size < w1.heap.size := B1.lt
  have HB1 : Hid (Box w1 w.heap.size ⟨k, l, s, a, b, x⟩) := B1
  clear B1 
  go_wp2_with fail
  go_region_with (first
    | (go_at_call 23; refine (size_is k hk n (by rw [HN.out.1]) _).mono ?_; rintro e w' ⟨rfl, rfl⟩)
    | (go_at_call 22; refine (fields_any w1.heap.size n ⟨k, l, s, a, b, x⟩ HF.out.1 _ ((make_own n (by omega) w1 _ rfl).below (drew_below _))).mono ?_; rintro e w2 ⟨g2, c2, rfl, o2, m2⟩)
    | (go_at_call 21; refine (check_any (some g2) _ (flen ⟨k, l, s, a, b, x⟩) c2 _ (by have := HN.out; omega) _ (Onto.own o2)).mono ?_; rintro e w3 ⟨g3, c3, rfl, o3, m3⟩))
  all_goals
    go_wp2_with fail
    go_ret2
    obtain ⟨bb, hg⟩ := Moved.since (w0 := w) (later (later (later (fresh _ _) b1) (fresh _ _)) (drew_below _)) (Nat.le_of_lt hz) (m2.trans m3)
    have hl := HN.out.2.1.trans HN.out.2.2.symm
    exact ⟨g3, c3, by rw [hl]; rfl, by rw [hl]; exact o3.raise hg, bb⟩
end Go.Proofs.Ytmllgbgcageccaa
