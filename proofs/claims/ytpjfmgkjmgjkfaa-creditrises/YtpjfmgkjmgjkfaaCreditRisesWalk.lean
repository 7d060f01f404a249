/-
  The law CreditRises of package shunterlaw05, over a slice of calls that is handed in. Conditions: that the numbers are of their kinds, and the slice leads to calls.
-/
import Derived.Test.YtpjfmgkjmgjkfaaCreditOps
namespace Go.Proofs.Ytpjfmgkjmgjkfaa
open Go.ChangeShapes Go.WideShapes Go.ChangeAt Go.RowKit
set_option linter.unusedVariables false

set_option maxRecDepth 100000 in
set_option maxHeartbeats 4000000 in
theorem creditRises_walk (a0 a1 : Int) (h0 : 0 ≤ a0 ∧ a0 ≤ 4294967295) (h1 : 0 ≤ a1 ∧ a1 ≤ 255) (a : Option Addr) (len cap : Nat) (os : List OpV) (w : World) (ho : Ops w a len os) :
    Calls Try.prog 6 #[.int .u32 a0, .int .u8 a1, .slice a len cap] w fun e w' => e = .returned (.bool true) ∧ Below w.heap.size w w' := by
  have HO : Hid (Ops w a len os) := ho
  obtain ⟨h00, h01⟩ := h0
  obtain ⟨h10, h11⟩ := h1
  have hl1 := ho.2.1
  clear ho
  by_cases hb : 200 < len
  · go_enter Try.func6, Try.ntmps6
    go_wp2_with fail
    refine (known_any _).mono ?_
    rintro e u2 ⟨rfl, b2⟩
    go_wp2_with fail
    go_ret
    exact ⟨rfl, b2⟩
  · go_enter Try.func6, Try.ntmps6
    go_wp2_with fail
    refine (known_any _).mono ?_
    rintro e u0 ⟨rfl, b0⟩
    go_wp2_with fail
    refine (new_good a0 (1 + a1 % 8) (by omega) (by omega) w _ b0).mono ?_
    rintro e u1 ⟨p, rfl, m1⟩
    have H1 : Hid (Mine w u1 p a0 (a0 + (1 + a1 % 8))) := m1
    clear m1 b0
    go_wp2_with fail
    refine (limit_any H1.out).mono ?_
    rintro e u2 ⟨rfl, rfl⟩
    go_wp2_with fail
    go_loopw [8, 9, 10] (fun b i _ wr => ∃ (k : Nat) (s t : Int), k ≤ len ∧ i = .int .i64 k ∧ b = .int .u64 t ∧ s ≤ a0 + k ∧ Mine w wr p s t) (fun _ i _ _ => len - (intOf i).toNat)
    case atStart => exact ⟨0, a0, a0 + (1 + a1 % 8), Nat.zero_le _, rfl, rfl, by omega, H1.out⟩
    case round =>
      obtain ⟨k, s, t, hk, rfl, rfl, hs, hm⟩ := hrel
      have HM : Hid (Mine w wr p s t) := hm
      have hs0 := hm.1.s0
      have hst := hm.1.sl
      have ht8 := hm.1.l8
      clear hm H1
      by_cases hkl : k < len
      · obtain ⟨b, off, v, rfl, hat⟩ := (HO.out.below HM.out.below).at hkl
        obtain ⟨q1, q2, q3, hk8, hn8, hs16⟩ := hat
        obtain ⟨vk, vn, vs⟩ := v
        simp only at q1 q2 q3 hk8 hn8 hs16
        by_cases hev : vk % 2 = 0
        · have he : ((vk : Int) % 2 == 0) = true := by simp; omega
          go_wp2_with fail
          refine (next_any HM.out (by omega)).mono ?_
          rintro e u2 ⟨x, y, s', rfl, m2, h1, h2, h3⟩
          have HM2 : Hid (Mine w u2 p s' t) := m2
          have e1 := m2.1.sl
          have e2 := m2.1.l8
          clear m2 HM h3 q1 q2 q3
          go_wp2_with fail
          refine (limit_any HM2.out).mono ?_
          rintro e u3 ⟨rfl, rfl⟩
          go_wp2_with fail
          refine (sent_any HM2.out).mono ?_
          rintro e u3 ⟨rfl, rfl⟩
          go_wp2_with fail
          refine (sent_any HM2.out).mono ?_
          rintro e u3 ⟨rfl, rfl⟩
          go_wp2_with fail
          refine (usable_any HM2.out (t - s') rfl).mono ?_
          rintro e u4 ⟨rfl, m4⟩
          have HM4 : Hid (Mine w u4 p s' t) := m4
          clear m4 HM2
          go_wp2_with fail
          refine (sent_any HM4.out).mono ?_
          rintro e u5 ⟨rfl, rfl⟩
          go_wp2_with fail
          go_roundw
          case rel => exact ⟨k + 1, s', t, by omega, by go_num, rfl, by omega, HM4.out⟩
          case measure => simp [intOf]; omega
        · have he : ((vk : Int) % 2 == 0) = false := by simp; omega
          go_wp2_with fail
          refine (hear_any HM.out vs (by omega) (by omega)).mono ?_
          rintro e u2 ⟨y, t', rfl, m2, h1⟩
          have HM2 : Hid (Mine w u2 p s t') := m2
          have e1 := m2.1.sl
          have e2 := m2.1.l8
          clear m2 HM q1 q2 q3
          go_wp2_with fail
          refine (limit_any HM2.out).mono ?_
          rintro e u3 ⟨rfl, rfl⟩
          go_wp2_with fail
          refine (sent_any HM2.out).mono ?_
          rintro e u3 ⟨rfl, rfl⟩
          go_wp2_with fail
          refine (sent_any HM2.out).mono ?_
          rintro e u3 ⟨rfl, rfl⟩
          go_wp2_with fail
          refine (usable_any HM2.out (t' - s) rfl).mono ?_
          rintro e u4 ⟨rfl, m4⟩
          have HM4 : Hid (Mine w u4 p s t') := m4
          clear m4 HM2
          go_wp2_with fail
          refine (sent_any HM4.out).mono ?_
          rintro e u5 ⟨rfl, rfl⟩
          go_wp2_with fail
          go_roundw
          case rel => exact ⟨k + 1, s, t', by omega, by go_num, rfl, by omega, HM4.out⟩
          case measure => simp [intOf]; omega
      · go_wp2_with fail
        go_ret
        exact ⟨rfl, HM.out.below⟩
theorem creditRises_any (_ : True) (w : World) (a0 : Int) (w0 : (Lit.int .u32 a0).wf = true) (a1 : Int) (w1 : (Lit.int .u8 a1).wf = true) (a : Option Addr) (len cap : Nat) (os : List OpV) (ho : Ops w a len os) :
    Calls Try.prog 6 #[.int .u32 a0, .int .u8 a1, .slice a len cap] w fun e w' => e = .returned (.bool true) ∧ Below w.heap.size w w' :=
  creditRises_walk a0 a1 (bounds_u32 w0) (bounds_u8 w1) a len cap os w ho
end Go.Proofs.Ytpjfmgkjmgjkfaa
