/-
  wire.read16 and wire.read32 come to the numbers that the bytes make. Conditions: none but that the slice has as many bytes.
-/
import Derived.Test.YtmllgbgcageccaaWireC
namespace Go.Proofs.Ytmllgbgcageccaa
open Go.ChangeShapes Go.WideShapes Go.ChangeAt Go.RowKit
set_option linter.unusedVariables false

theorem or_add (a b k : Nat) (hb : b < 2 ^ k) : (a * 2 ^ k) ||| b = a * 2 ^ k + b := by
  rw [← Nat.shiftLeft_eq]; exact (Nat.shiftLeft_add_eq_or_of_lt hb a).symm
theorem or16 (c d : Nat) (hc : c < 256) (hd : d < 256) : bits .or .u16 ((c : Int) * 256) (d : Int) = ((c * 256 + d : Nat) : Int) := by
  rw [show (c : Int) * 256 = ((c * 256 : Nat) : Int) by omega, u16_or_nat _ _ (by omega) (by omega), ← or_add c d 8 hd]
theorem or32 (c d : Nat) (hc : c < 65536) (hd : d < 65536) : bits .or .u32 ((c : Int) * 65536) (d : Int) = ((c * 65536 + d : Nat) : Int) := by
  rw [show (c : Int) * 65536 = ((c * 65536 : Nat) : Int) by omega, u32_or_nat _ _ (by omega) (by omega), ← or_add c d 16 hd]
set_option maxHeartbeats 400000 in
theorem read16_any (b off len cap c d : Nat) (hl : 2 ≤ len) (hm : len ≤ 1000) (hc : c < 256) (hd : d < 256) (w : World) (c0 : w.cell? ⟨b, off, none⟩ = some (.int .u8 c)) (c1 : w.cell? ⟨b, off + 1, none⟩ = some (.int .u8 d)) :
    Calls Try.prog 30 #[.slice (some ⟨b, off, none⟩) len cap] w fun e w' => e = .returned (.int .u16 (c * 256 + d : Nat)) ∧ ∃ n, w' = w.drewN n := by
  have HX : Hid (bits .or .u16 ((c : Int) * 256) (d : Int) = ((c * 256 + d : Nat) : Int)) := or16 c d hc hd
  have i0 : (0 : Int) < len := by omega
  have i1 : (1 : Int) < len := by omega
  go_enter Try.func30, Try.ntmps30
  go_wp2_with fail
  go_quiet (fail)
  go_wp2_with fail
  go_ret
  exact ⟨ret_int HX.out, nq, rfl⟩
set_option maxHeartbeats 400000 in
theorem read32_any (b off len cap c0 c1 c2 c3 : Nat) (hl : 4 ≤ len) (hlc : len ≤ cap) (hm : cap ≤ 9223372036854775807) (hm2 : len ≤ 1000) (h0 : c0 < 256) (h1 : c1 < 256) (h2 : c2 < 256) (h3 : c3 < 256) (w : World)
    (f0 : w.cell? ⟨b, off, none⟩ = some (.int .u8 c0)) (f1 : w.cell? ⟨b, off + 1, none⟩ = some (.int .u8 c1)) (f2 : w.cell? ⟨b, off + 2, none⟩ = some (.int .u8 c2)) (f3 : w.cell? ⟨b, off + 2 + 1, none⟩ = some (.int .u8 c3)) :
    Calls Try.prog 31 #[.slice (some ⟨b, off, none⟩) len cap] w fun e w' => e = .returned (.int .u32 ((c0 * 256 + c1) * 65536 + (c2 * 256 + c3) : Nat)) ∧ ∃ n, w' = w.drewN n := by
  have HX : Hid (bits .or .u32 (((c0 * 256 + c1 : Nat) : Int) * 65536) ((c2 * 256 + c3 : Nat) : Int) = (((c0 * 256 + c1) * 65536 + (c2 * 256 + c3) : Nat) : Int)) := or32 _ _ (by omega) (by omega)
  have i2 : (2 : Int) ≤ len := by omega
  have i3 : (len : Int) ≤ cap := by omega
  go_enter Try.func31, Try.ntmps31
  go_wp2_with fail
  go_quiet (first
    | (go_at_call_of 30 (Value.slice (some ⟨b, off, none⟩) len cap); exact Calls.quiet_of (read16_any b off len cap c0 c1 (by omega) (by omega) h0 h1 _ (by simpa using f0) (by simpa using f1)))
    | (go_at_call 30; exact Calls.quiet_of (read16_any b (off + 2) (len - 2) _ c2 c3 (by omega) (by omega) h2 h3 _ (by simpa using f2) (by simpa using f3))))
  go_wp2_with fail
  go_ret
  exact ⟨ret_int HX.out, nq, rfl⟩
end Go.Proofs.Ytmllgbgcageccaa
