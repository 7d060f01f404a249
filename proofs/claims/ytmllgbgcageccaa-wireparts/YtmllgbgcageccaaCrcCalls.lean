/-
  What the functions of packages crc and shunterref02 come to, for all bytes: the check of the bytes as plain numbers. Conditions: none but that the numbers are of their kinds and the slices lead to bytes.
-/
import Derived.Test.YtmllgbgcageccaaRows
import Derived.Test.YtmllgbgcageccaaCrcMath
import Derived.WalkKit
import Derived.ProofKit
import Derived.OpenShut
namespace Go.Proofs.Ytmllgbgcageccaa
open Go.ChangeShapes Go.WideShapes Go.ChangeAt Go.RowKit
set_option linter.unusedVariables false

theorem ret_bool {a b : Bool} (h : a = b) : Ending.returned (.bool a) = .returned (.bool b) := by rw [h]
theorem ret_int {k : IntKind} {a b : Int} (h : a = b) : Ending.returned (.int k a) = .returned (.int k b) := by rw [h]

/-- block b holds the register n, and may be written; all below is as it was in w0 -/
def Reg (b n : Nat) (w0 w : World) : Prop := w.cell? ⟨b, 0, none⟩ = some (.int .u16 n) ∧ w.frozen? ⟨b, 0, none⟩ = false ∧ Below b w0 w
theorem Reg.set {b n : Nat} {w0 w : World} {m : Int} {m' : Nat} (h : Reg b n w0 w) (e : m = m') : Reg b m' w0 (w.setCell ⟨b, 0, none⟩ (.int .u16 m)) := by
  subst e
  exact ⟨World.cell?_setCell_same _ _ _ h.1, by simpa using h.2.1, h.2.2.setCell (Nat.le_refl _) _⟩

theorem high_bit (n : Nat) (h : n < 65536) : (bits BinOp.and IntKind.u16 (n : Int) 32768 != 0) = decide (32768 ≤ n) := by
  have e := u16_and_nat n 32768 h (by omega)
  rw [show ((32768 : Nat) : Int) = 32768 from rfl] at e
  rw [e, show 32768 = 2 ^ 15 from rfl, nat_bit 15 n]
  by_cases hn : 2 ^ 15 ≤ n
  · have : n / 2 ^ 15 % 2 = 1 := by omega
    rw [this]; simp [hn]
  · have : n / 2 ^ 15 % 2 = 0 := by omega
    rw [this]; simp [hn]

set_option maxHeartbeats 400000 in
theorem up_any (b n : Nat) (hn : n < 65536) (w0 w : World) (hr : Reg b n w0 w) :
    Calls Try.prog 33 #[.pointer (some ⟨b, 0, none⟩)] w fun e w' => e = .returned (.tuple #[]) ∧ Reg b (Crc.up n) w0 w' := by
  have ht := high_bit n hn
  have hc := hr.1
  have hf := hr.2.1
  have HR : Hid (Reg b n w0 w) := hr
  clear hr
  by_cases h : n < 32768
  · rw [show decide (32768 ≤ n) = false by simp; omega] at ht
    go_enter Try.func33, Try.ntmps33
    go_wp2
    go_end0
    exact ⟨rfl, HR.out.set (by unfold Crc.up; rw [if_pos h]; omega)⟩
  · rw [show decide (32768 ≤ n) = true by simp; omega] at ht
    go_enter Try.func33, Try.ntmps33
    go_wp2
    go_end0
    refine ⟨rfl, (HR.out.set (m' := 2 * n - 65536) (by rw [IntKind.wrap_u16]; omega)).set ?_⟩
    unfold Crc.up
    rw [if_neg h, IntKind.wrap_u16, show (n : Int) * 2 % 65536 = ((2 * n - 65536 : Nat) : Int) by omega]
    exact u16_xor_nat _ 4129 (by omega) (by omega)

set_option maxHeartbeats 400000 in
theorem take_any (b n c : Nat) (hn : n < 65536) (hc8 : c < 256) (w0 w : World) (hr : Reg b n w0 w) :
    Calls Try.prog 32 #[.pointer (some ⟨b, 0, none⟩), .int .u8 c] w fun e w' => e = .returned (.tuple #[]) ∧ Reg b (Crc.step n c) w0 w' := by
  have hc := hr.1
  have hf := hr.2.1
  have HR : Hid (Reg b n w0 w) := hr
  clear hr
  go_enter Try.func32, Try.ntmps32
  go_wp2
  have hx : (bits BinOp.xor IntKind.u16 (n : Int) ((c : Int) * 256)) = ((n ^^^ c * 256 : Nat) : Int) := by
    rw [show (c : Int) * 256 = ((c * 256 : Nat) : Int) by omega]; exact u16_xor_nat _ _ hn (by omega)
  have HX : Hid ((bits BinOp.xor IntKind.u16 (n : Int) ((c : Int) * 256)) = ((n ^^^ c * 256 : Nat) : Int)) := hx
  clear hx
  go_loopw [12] (fun i wr => ∃ k : Nat, k ≤ 8 ∧ i = .int .i64 k ∧ Reg b (Crc.ups k (n ^^^ c * 256)) w0 wr) (fun i _ => 8 - (intOf i).toNat)
  case atStart => exact ⟨0, Nat.zero_le _, rfl, HR.out.set HX.out⟩
  case round =>
    obtain ⟨k, hk, rfl, hreg⟩ := hrel
    have HG : Hid (Reg b (Crc.ups k (n ^^^ c * 256)) w0 wr) := hreg
    have hlt : Crc.ups k (n ^^^ c * 256) < 65536 := Crc.ups_lt (Crc.xor_lt hn (by omega))
    clear hreg HR
    by_cases h8 : k < 8
    · go_wp2_with (go_at_call 33; refine (up_any b _ hlt w0 _ HG.out).mono ?_; rintro e w' ⟨rfl, hreg'⟩)
      go_roundw
      case rel => exact ⟨k + 1, by omega, by go_num, hreg'⟩
      case measure => simp [intOf]; omega
    · obtain rfl : k = 8 := by omega
      go_wp2
      go_end0
      exact ⟨rfl, HG.out⟩

/-- the slice leads to the bytes l (what stands behind its length is not spoken of) -/
def Octs (w : World) (a : Option Addr) (len : Nat) (l : List Nat) : Prop :=
  l.length = len ∧ len ≤ maxLen ∧ Crc.Oct l ∧ (len = 0 ∨ ∃ b off, a = some ⟨b, off, none⟩ ∧ b < w.heap.size ∧ ∀ i, i < len → w.cell? ⟨b, off + i, none⟩ = some (.int .u8 (l.getD i 0 : Nat)))
theorem Octs.below {w w' : World} {a : Option Addr} {len : Nat} {l : List Nat} (h : Octs w a len l) (hb : Below w.heap.size w w') : Octs w' a len l := by
  obtain ⟨h1, h2, h3, h4⟩ := h
  refine ⟨h1, h2, h3, ?_⟩
  rcases h4 with h4 | ⟨b, off, ha, hlt, hc⟩
  · exact .inl h4
  · exact .inr ⟨b, off, ha, Nat.lt_of_lt_of_le hlt hb.size, fun i hi => (hb.cell (p := ⟨b, off + i, none⟩) hlt).trans (hc i hi)⟩
theorem Octs.empty {w : World} {a : Option Addr} : Octs w a 0 [] := ⟨rfl, by unfold maxLen; omega, (fun x hx => absurd hx List.not_mem_nil), .inl rfl⟩

theorem crc_take_succ {l : List Nat} {k : Nat} (h : k < l.length) : Crc.crc (l.take (k + 1)) = Crc.step (Crc.crc (l.take k)) (l.getD k 0) := by
  rw [List.take_succ_eq_append_getElem h, Crc.crc_snoc]
  congr 1
  simp [h]
theorem Oct_take {l : List Nat} (o : Crc.Oct l) (k : Nat) : Crc.Oct (l.take k) := fun x hx => o x (List.mem_of_mem_take hx)
theorem Oct_getD {l : List Nat} (o : Crc.Oct l) (k : Nat) : l.getD k 0 < 256 := by
  rw [List.getD_eq_getElem?_getD]
  by_cases h : k < l.length
  · rw [List.getElem?_eq_getElem h]; exact o _ (List.getElem_mem h)
  · rw [List.getElem?_eq_none (by omega)]; simp

set_option maxHeartbeats 400000 in
theorem sum_any (a : Option Addr) (len cap : Nat) (l : List Nat) (w : World) (hb : Octs w a len l) :
    Calls Try.prog 28 #[.slice a len cap] w fun e w' => e = .returned (.int .u16 (Crc.crc l : Nat)) ∧ Below w.heap.size w w' := by
  obtain ⟨hlen, hm, ho, hcs⟩ := hb
  unfold maxLen at hm
  have HL : Hid (l.length = len) := hlen
  have HC : Hid (len = 0 ∨ ∃ b off, a = some ⟨b, off, none⟩ ∧ b < w.heap.size ∧ ∀ i, i < len → w.cell? ⟨b, off + i, none⟩ = some (.int .u8 (l.getD i 0 : Nat))) := hcs
  clear hlen hcs
  go_enter Try.func28, Try.ntmps28
  go_wp2
  go_loopw [8] (fun i wr => ∃ k : Nat, k ≤ len ∧ i = .int .i64 k ∧ Reg w.heap.size (Crc.crc (l.take k)) w wr) (fun i _ => len - (intOf i).toNat)
  case atStart => exact ⟨0, Nat.zero_le _, rfl, by simp [Crc.crc_none], by simp, (Below.refl _ _).alloc (Nat.le_refl _) _⟩
  case round =>
    obtain ⟨k, hk, rfl, hreg⟩ := hrel
    have HG : Hid (Reg w.heap.size (Crc.crc (l.take k)) w wr) := hreg
    clear hreg
    by_cases hkl : k < len
    · obtain ⟨b, off, rfl, hlt, hcell⟩ : ∃ b off, a = some ⟨b, off, none⟩ ∧ b < w.heap.size ∧ ∀ i, i < len → w.cell? ⟨b, off + i, none⟩ = some (.int .u8 (l.getD i 0 : Nat)) := by
        rcases HC.out with h | h
        · omega
        · exact h
      have hc1 : wr.cell? ⟨b, off + k, none⟩ = some (.int .u8 (l.getD k 0 : Nat)) := (HG.out.2.2.cell (p := ⟨b, off + k, none⟩) hlt).trans (hcell k hkl)
      obtain ⟨c, hc⟩ : ∃ c, c = l.getD k 0 := ⟨_, rfl⟩
      rw [← hc] at hc1
      have HCc : Hid (c = l.getD k 0) := hc
      have hc8 : c < 256 := by rw [hc]; exact Oct_getD ho k
      clear hc hcell HC
      go_wp2_with (go_at_call 32; refine (take_any _ _ c (Crc.crc_lt (Oct_take ho k)) hc8 w _ HG.out).mono ?_; rintro e w' ⟨rfl, hreg'⟩)
      go_roundw
      case rel => exact ⟨k + 1, by omega, by go_num, by rw [crc_take_succ (by rw [HL.out]; exact hkl), ← HCc.out]; exact hreg'⟩
      case measure => simp [intOf]; omega
    · obtain rfl : k = len := by omega
      have hc1 := HG.out.1
      go_wp2
      go_ret
      refine ⟨ret_int ?_, HG.out.2.2⟩
      rw [List.take_of_length_le (by rw [HL.out]; exact Nat.le_refl _)]

set_option maxRecDepth 100000 in
set_option maxHeartbeats 1000000 in
theorem ref_any (a : Option Addr) (len cap : Nat) (l : List Nat) (w : World) (hb : Octs w a len l) :
    Calls Try.prog 24 #[.slice a len cap] w fun e w' => e = .returned (.int .u16 (Crc.crc l : Nat)) ∧ w' = w := by
  obtain ⟨hlen, hm, ho, hcs⟩ := hb
  unfold maxLen at hm
  have HL : Hid (l.length = len) := hlen
  have HC : Hid (len = 0 ∨ ∃ b off, a = some ⟨b, off, none⟩ ∧ b < w.heap.size ∧ ∀ i, i < len → w.cell? ⟨b, off + i, none⟩ = some (.int .u8 (l.getD i 0 : Nat))) := hcs
  clear hlen hcs
  go_enter Try.func24, Try.ntmps24
  go_wp2
  go_loop [3, 4] (fun r i => ∃ k : Nat, k ≤ len ∧ i = .int .i64 k ∧ r = .int .u32 (Crc.crc (l.take k) : Nat)) (fun _ i => len - (intOf i).toNat)
  case atStart => exact ⟨0, Nat.zero_le _, rfl, by simp [Crc.crc_none]⟩
  case round =>
    obtain ⟨k, hk, rfl, rfl⟩ := hrel
    obtain ⟨R, hR⟩ : ∃ R, R = Crc.crc (l.take k) := ⟨_, rfl⟩
    have hRl : R < 65536 := by rw [hR]; exact Crc.crc_lt (Oct_take ho k)
    rw [← hR]
    have HR : Hid (R = Crc.crc (l.take k)) := hR
    clear hR
    by_cases hkl : k < len
    · obtain ⟨b, off, rfl, hlt, hcell⟩ : ∃ b off, a = some ⟨b, off, none⟩ ∧ b < w.heap.size ∧ ∀ i, i < len → w.cell? ⟨b, off + i, none⟩ = some (.int .u8 (l.getD i 0 : Nat)) := by
        rcases HC.out with h | h
        · omega
        · exact h
      have hc1 : w.cell? ⟨b, off + k, none⟩ = some (.int .u8 (l.getD k 0 : Nat)) := hcell k hkl
      obtain ⟨c, hc⟩ : ∃ c, c = l.getD k 0 := ⟨_, rfl⟩
      rw [← hc] at hc1
      have HCc : Hid (c = l.getD k 0) := hc
      have hc8 : c < 256 := by rw [hc]; exact Oct_getD ho k
      clear hc hcell HC
      have HX : Hid ((bits BinOp.xor IntKind.u32 (R : Int) ((c : Int) * 256)) = ((R ^^^ c * 256 : Nat) : Int)) := by
        show _ = _
        rw [show (c : Int) * 256 = ((c * 256 : Nat) : Int) by omega]; exact u32_xor_nat _ _ (by omega) (by omega)
      go_wp2
      go_loop [3, 5] (fun r i => ∃ j : Nat, j ≤ 8 ∧ i = .int .i64 j ∧ r = .int .u32 (Crc.ups j (R ^^^ c * 256) : Nat)) (fun _ i => 8 - (intOf i).toNat)
      case atStart => exact ⟨0, Nat.zero_le _, rfl, by rw [HX.out]; rfl⟩
      case round =>
        obtain ⟨j, hj, rfl, rfl⟩ := hrel
        obtain ⟨S, hS⟩ : ∃ S, S = Crc.ups j (R ^^^ c * 256) := ⟨_, rfl⟩
        have hSl : S < 65536 := by rw [hS]; exact Crc.ups_lt (Crc.xor_lt hRl (by omega))
        rw [← hS]
        have HS : Hid (S = Crc.ups j (R ^^^ c * 256)) := hS
        clear hS
        by_cases h8 : j < 8
        · have HU : Hid (Crc.ups (j + 1) (R ^^^ c * 256) = Crc.up S) := by show _ = _; rw [HS.out]; rfl
          clear hc1 hlt HX HR HCc ho hm
          by_cases hs : S < 32768
          · have ht : decide ((65536 : Int) ≤ (S : Int) * 2) = false := decide_eq_false (by omega)
            go_wp2
            go_round
            case rel => exact ⟨j + 1, by omega, by go_num, by rw [HU.out]; unfold Crc.up; rw [if_pos hs]; go_num⟩
            case measure => simp [intOf]; omega
          · have ht : decide ((65536 : Int) ≤ (S : Int) * 2) = true := decide_eq_true (by omega)
            go_wp2
            go_round
            case rel => exact ⟨j + 1, by omega, by go_num, by
              rw [HU.out]; unfold Crc.up; rw [if_neg hs, show (S : Int) * 2 - 65536 = ((2 * S - 65536 : Nat) : Int) by omega]
              exact congrArg (Value.int .u32) (u32_xor_nat _ 4129 (by omega) (by omega))⟩
            case measure => simp [intOf]; omega
        · obtain rfl : j = 8 := by omega
          go_wp2
          go_round
          case rel => exact ⟨k + 1, by omega, by go_num, by rw [crc_take_succ (by rw [HL.out]; exact hkl), ← HCc.out, ← HR.out, HS.out]; rfl⟩
          case measure => simp [intOf]; omega
    · obtain rfl : k = len := by omega
      go_wp2
      go_ret
      refine ⟨ret_int ?_, rfl⟩
      rw [HR.out, List.take_of_length_le (by rw [HL.out]; exact Nat.le_refl _)]
end Go.Proofs.Ytmllgbgcageccaa
