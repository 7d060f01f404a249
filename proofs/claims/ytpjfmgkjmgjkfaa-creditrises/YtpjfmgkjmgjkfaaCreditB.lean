/-
  A limit that is heard, as a number near the one that there is: what Hear comes to. Conditions: none but that the sender is one, and its numbers are below 2^63.
-/
import Derived.Test.YtpjfmgkjmgjkfaaCreditA
namespace Go.Proofs.Ytpjfmgkjmgjkfaa
open Go.ChangeShapes Go.WideShapes Go.ChangeAt Go.RowKit
set_option linter.unusedVariables false

theorem hear_stale {w0 w : World} {p : Nat} {s l : Int} (h : Mine w0 w p s l) (x v : Int) (hx : x = v % 65536) (hs : s ≤ 4611686018427387904) (h0 : 0 ≤ v) (h1 : l - 32768 ≤ v) (h2 : v < l + 32768) (hn : v ≤ l ∨ s + 8 < v) :
    Calls Try.prog 14 #[.pointer (some ⟨p, 0, none⟩), .int .u16 x] w fun e w' => e = .returned (.bool false) ∧ Mine w0 w' p s l := by
  have := h.1.l8
  have hv : widI l x = v := widI_is h0 (by omega) (by omega) h1 h2
  exact hear_no h x (by omega) (by omega) (by rw [hv]; omega)
theorem hear_higher {w0 w : World} {p : Nat} {s l : Int} (h : Mine w0 w p s l) (x v : Int) (hx : x = v % 65536) (hs : s ≤ 4611686018427387904) (h1 : l < v) (h2 : v ≤ s + 8) :
    Calls Try.prog 14 #[.pointer (some ⟨p, 0, none⟩), .int .u16 x] w fun e w' => e = .returned (.bool true) ∧ Mine w0 w' p s v := by
  have := h.1.s0
  have := h.1.sl
  have hv : widI l x = v := widI_is (by omega) (by omega) (by omega) (by omega) (by omega)
  exact hear_yes h x (by omega) (by omega) v hv ⟨h1, h2⟩
theorem hear_any {w0 w : World} {p : Nat} {s l : Int} (h : Mine w0 w p s l) (x : Int) (hx : 0 ≤ x ∧ x ≤ 65535) (hs : s ≤ 4611686018427387904) :
    Calls Try.prog 14 #[.pointer (some ⟨p, 0, none⟩), .int .u16 x] w fun e w' => ∃ b v, e = .returned (.bool b) ∧ Mine w0 w' p s v ∧ l ≤ v := by
  by_cases hn : l < widI l x ∧ widI l x ≤ s + 8
  · exact (hear_yes h x hx (by omega) _ rfl hn).mono fun e w' ⟨he, hm⟩ => ⟨true, _, he, hm, by omega⟩
  · exact (hear_no h x hx (by omega) hn).mono fun e w' ⟨he, hm⟩ => ⟨false, _, he, hm, Int.le_refl _⟩
theorem next_any {w0 w : World} {p : Nat} {s l : Int} (h : Mine w0 w p s l) (hs : s ≤ 4611686018427387904) :
    Calls Try.prog 15 #[.pointer (some ⟨p, 0, none⟩)] w fun e w' => ∃ x b t, e = .returned (.tuple #[.int .u64 x, .bool b]) ∧ Mine w0 w' p t l ∧ s ≤ t ∧ t ≤ s + 1 ∧ (s < l → t = s + 1) := by
  by_cases hu : l = s
  · exact (next_none h hu).mono fun e w' ⟨he, hm⟩ => ⟨0, false, s, he, hm, Int.le_refl _, by omega, by omega⟩
  · exact (next_some h hu (by omega)).mono fun e w' ⟨he, hm⟩ => ⟨s, true, s + 1, he, hm, by omega, Int.le_refl _, fun _ => rfl⟩
theorem Octs.byte {w : World} {a : Option Addr} {len : Nat} {l : List Nat} (h : Octs w a len l) {k : Nat} (hk : k < len) : ∃ b off c, a = some ⟨b, off, none⟩ ∧ c < 256 ∧ w.cell? ⟨b, off + k, none⟩ = some (.int .u8 (c : Nat)) := by
  rcases h.2.2.2 with h0 | ⟨b, off, ha, hlt, hc⟩
  · omega
  · exact ⟨b, off, _, ha, Oct_getD h.2.2.1 k, hc k hk⟩
end Go.Proofs.Ytpjfmgkjmgjkfaa
