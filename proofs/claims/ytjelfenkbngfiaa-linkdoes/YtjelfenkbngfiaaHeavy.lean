/-
  The helper heavy of package shunterlaw04: true just if there are more than 100 calls or more than 3000 bytes. Conditions: none but that the slice leads to calls.
-/
import Derived.Test.YtjelfenkbngfiaaOpsArg
namespace Go.Proofs.Ytjelfenkbngfiaa
open Go.ChangeShapes Go.WideShapes Go.ChangeAt Go.RowKit
set_option linter.unusedVariables false

theorem bulk_succ {os : List OpV} {k : Nat} (h : k < os.length) : bulk (os.take (k + 1)) = bulk (os.take k) + (os.getD k zop).len := by
  unfold bulk
  rw [List.take_succ_eq_append_getElem h, List.map_append, List.sum_append]
  congr 1
  simp [List.getD_eq_getElem?_getD, h]
theorem Ops.at {w : World} {a : Option Addr} {len : Nat} {os : List OpV} (h : Ops w a len os) {k : Nat} (hk : k < len) : ∃ b off, a = some ⟨b, off, none⟩ ∧ OpAt w b (off + k * 5) (os.getD k zop) := by
  rcases h.2.2 with h0 | ⟨b, off, ha, hc⟩
  · omega
  · exact ⟨b, off, ha, hc k hk⟩
set_option maxHeartbeats 400000 in
theorem heavy_many (a : Option Addr) (len cap : Nat) (os : List OpV) (w : World) (h : Ops w a len os) (hl : 100 < len) :
    Calls Try.prog 10 #[.slice a len cap] w fun e w' => e = .returned (.bool true) ∧ w' = w := by
  have HO : Hid (Ops w a len os) := h
  have hm := h.2.1
  clear h
  go_enter Try.func10, Try.ntmps10
  go_wp2
  go_loop [3, 4] (fun n i => ∃ (k : Nat) (z : Int), k ≤ len ∧ i = .int .i64 k ∧ n = .int .i64 z) (fun _ i => len - (intOf i).toNat)
  case atStart => exact ⟨0, 0, Nat.zero_le _, rfl, rfl⟩
  case round =>
    obtain ⟨k, z, hk, rfl, rfl⟩ := hrel
    by_cases hkl : k < len
    · obtain ⟨b, off, rfl, hat⟩ := HO.out.at hkl
      have hc := hat.2.1
      obtain ⟨va, vl, vc, hv⟩ : ∃ va vl vc, (va, vl, vc) = ((os.getD k zop).a, (os.getD k zop).len, (os.getD k zop).cap) := ⟨_, _, _, rfl⟩
      simp only [Prod.mk.injEq] at hv
      rw [← hv.1, ← hv.2.1, ← hv.2.2] at hc
      clear hat hv
      go_wp2
      go_round
      case rel => exact ⟨k + 1, _, by omega, by go_num, rfl⟩
      case measure => simp [intOf]; omega
    · go_wp2
      go_ret
      exact ⟨rfl, rfl⟩
set_option maxHeartbeats 400000 in
theorem heavy_few (a : Option Addr) (len cap : Nat) (os : List OpV) (w : World) (h : Ops w a len os) (hl : len ≤ 100) :
    Calls Try.prog 10 #[.slice a len cap] w fun e w' => e = .returned (.bool (decide (3000 < bulk os))) ∧ w' = w := by
  have HO : Hid (Ops w a len os) := h
  clear h
  go_enter Try.func10, Try.ntmps10
  go_wp2
  go_loop [3, 4] (fun n i => ∃ (k : Nat), k ≤ len ∧ i = .int .i64 k ∧ n = .int .i64 (bulk (os.take k) : Nat) ∧ bulk (os.take k) ≤ k * 140737488351232) (fun _ i => len - (intOf i).toNat)
  case atStart => exact ⟨0, Nat.zero_le _, rfl, by simp [bulk], by simp [bulk]⟩
  case round =>
    obtain ⟨k, hk, rfl, rfl, hbk⟩ := hrel
    by_cases hkl : k < len
    · obtain ⟨b, off, rfl, hat⟩ := HO.out.at hkl
      have hc := hat.2.1
      have hok := hat.2.2.2.2.2
      have hs := bulk_succ (os := os) (k := k) (by rw [HO.out.1]; exact hkl)
      obtain ⟨va, vl, vc, hv⟩ : ∃ va vl vc, (va, vl, vc) = ((os.getD k zop).a, (os.getD k zop).len, (os.getD k zop).cap) := ⟨_, _, _, rfl⟩
      simp only [Prod.mk.injEq] at hv
      have hvl : vl ≤ 140737488351232 := by rw [hv.2.1]; exact Nat.le_trans hok.2.2.1 hok.2.2.2.1
      rw [← hv.1, ← hv.2.1, ← hv.2.2] at hc
      rw [← hv.2.1] at hs
      have HS : Hid (bulk (os.take (k + 1)) = bulk (os.take k) + vl) := hs
      obtain ⟨B, hB⟩ : ∃ B, B = bulk (os.take k) := ⟨_, rfl⟩
      rw [← hB] at hbk HS ⊢
      clear hat hv hok hs hB
      go_wp2
      go_round
      case rel => exact ⟨k + 1, by omega, by go_num, by rw [HS.out]; go_num, by rw [HS.out]; omega⟩
      case measure => simp [intOf]; omega
    · obtain rfl : k = len := by omega
      have HT : Hid (bulk (os.take k) = bulk os) := by show _ = _; rw [List.take_of_length_le (by rw [HO.out.1]; exact Nat.le_refl _)]
      go_wp2
      all_goals
        go_ret
        refine ⟨ret_bool ?_, rfl⟩
        rw [← HT.out]
        rw [← Bool.decide_or]
        exact decide_eq_decide.2 (by omega)
/-- too many calls, or too many bytes -/
def tooMuch (os : List OpV) : Bool := decide (100 < os.length ∨ 3000 < bulk os)
theorem heavy_is (a : Option Addr) (len cap : Nat) (os : List OpV) (w : World) (h : Ops w a len os) (b : Bool) (hb : tooMuch os = b) :
    Calls Try.prog 10 #[.slice a len cap] w fun e w' => e = .returned (.bool b) ∧ w' = w := by
  subst hb
  unfold tooMuch
  rw [h.1]
  by_cases hl : 100 < len
  · rw [decide_eq_true (.inl hl)]
    exact heavy_many a len cap os w h hl
  · rw [show decide (100 < len ∨ 3000 < bulk os) = decide (3000 < bulk os) from decide_eq_decide.2 (by omega)]
    exact heavy_few a len cap os w h (by omega)
end Go.Proofs.Ytjelfenkbngfiaa
