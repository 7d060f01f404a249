/-
  The small functions of packages wire and shunterref03 come to what they should: size, Sound, append16. Conditions: none but that the numbers are of their kinds and the slice is the call's own or full.
-/
import Derived.Test.YtmllgbgcageccaaOnto
import Derived.Test.YtmllgbgcageccaaWireMath
import Derived.Deep.QuietTactic
import Derived.BigQuiet
namespace Go.Proofs.Ytmllgbgcageccaa
open Go.ChangeShapes Go.WideShapes Go.ChangeAt Go.RowKit
set_option linter.unusedVariables false

/-- a frame as a value -/
def fr (f : Wire.Fr) : Value := .agg #[.int .u8 f.k, .int .u8 f.l, .int .u16 f.s, .int .u8 f.a, .int .u8 f.b, .int .u32 f.x]

set_option maxHeartbeats 400000 in
theorem size_any (k : Nat) (hk : k < 256) (w : World) :
    Calls Try.prog 23 #[.int .u8 k] w fun e w' => e = .returned (.int .i64 (Wire.sizeOf k : Nat)) ∧ w' = w := by
  by_cases h1 : k = 1
  · subst h1
    go_enter Try.func23, Try.ntmps23
    go_wp2
    go_ret
    exact ⟨rfl, rfl⟩
  · by_cases h2 : k = 2
    · subst h2
      go_enter Try.func23, Try.ntmps23
      go_wp2
      go_ret
      exact ⟨rfl, rfl⟩
    · by_cases h3 : k = 3
      · subst h3
        go_enter Try.func23, Try.ntmps23
        go_wp2
        go_ret
        exact ⟨rfl, rfl⟩
      · go_enter Try.func23, Try.ntmps23
        go_wp2
        go_ret
        exact ⟨ret_int (by unfold Wire.sizeOf; rw [if_neg h1, if_neg (by omega)]; rfl), rfl⟩

set_option maxHeartbeats 1000000 in
theorem sound_any (f : Wire.Fr) (hf : f.ok) (w : World) :
    Calls Try.prog 16 #[fr f] w fun e w' => e = .returned (.bool f.sound) ∧ Below w.heap.size w w' := by
  obtain ⟨h1, h2, h3, h4, h5, h6⟩ := hf
  obtain ⟨k, l, s, a, b, x⟩ := f
  simp only at h1 h2 h3 h4 h5 h6
  unfold fr
  simp only
  go_enter Try.func16, Try.ntmps16
  go_wp2
  all_goals
    go_ret
    refine ⟨ret_bool ?_, fresh _ _⟩
    rw [Bool.eq_iff_iff, Wire.Fr.sound_iff]
    simp_all
    try omega

set_option maxHeartbeats 1000000 in
theorem refSound_any (f : Wire.Fr) (hf : f.ok) (w : World) :
    Calls Try.prog 18 #[fr f] w fun e w' => e = .returned (.bool f.sound) ∧ Below w.heap.size w w' := by
  obtain ⟨h1, h2, h3, h4, h5, h6⟩ := hf
  obtain ⟨k, l, s, a, b, x⟩ := f
  simp only at h1 h2 h3 h4 h5 h6
  unfold fr
  simp only
  go_enter Try.func18, Try.ntmps18
  go_wp2
  all_goals
    go_ret
    refine ⟨ret_bool ?_, fresh _ _⟩
    rw [Bool.eq_iff_iff, Wire.Fr.sound_iff]
    simp_all
    try omega

set_option maxHeartbeats 400000 in
theorem append16_any (r : Option Nat) (a : Option Addr) (len cap n : Nat) (l : List Nat) (hn : n < 65536) (hlen : len ≤ 1000) (w : World) (h : Onto w r a len cap l) :
    Calls Try.prog 27 #[.slice a len cap, .int .u16 n] w fun e w' => ∃ g cap', e = .returned (.slice (some ⟨g, 0, none⟩) (len + 2 : Nat) cap') ∧ Own w' 0 (some ⟨g, 0, none⟩) (len + 2) cap' (l ++ Wire.be n) ∧ Moved w w' r g := by
  have HO : Hid (Onto w r a len cap l) := h
  clear h
  go_enter Try.func27, Try.ntmps27
  go_wp2_with (at_builtin; refine wpList_append_onto rfl _ _ rfl r a len cap l rfl (HO.out.below (fresh _ _)) _ 0 2 2 (Wire.be n) rfl (two_is w _ _ _ _ (by omega) (by omega) (by omega) (by omega)) (by omega) (by omega) (len + 2) rfl _ rfl ?_; intro g cap' w' hown hmv)
  go_ret
  exact ⟨g, cap', rfl, hown, Moved.ahead (fresh _ _) hmv⟩
end Go.Proofs.Ytmllgbgcageccaa
