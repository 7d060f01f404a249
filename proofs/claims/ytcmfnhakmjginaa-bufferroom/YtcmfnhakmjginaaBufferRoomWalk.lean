/-
  The law BufferRoom of package shunterlaw06, over a slice of calls that is handed in. Conditions: that the numbers are of their kinds, and the slice leads to calls.
-/
import Derived.Test.YtcmfnhakmjginaaBufferOps
namespace Go.Proofs.Ytcmfnhakmjginaa
open Go.ChangeShapes Go.WideShapes Go.ChangeAt Go.RowKit
set_option linter.unusedVariables false

set_option maxRecDepth 100000 in
set_option maxHeartbeats 4000000 in
theorem bufferRoom_walk (a0 a1 : Int) (h0 : 0 ≤ a0 ∧ a0 ≤ 4294967295) (h1 : 0 ≤ a1 ∧ a1 ≤ 255) (a : Option Addr) (len cap : Nat) (os : List OpV) (a3 : Int) (h3 : 0 ≤ a3 ∧ a3 ≤ 255) (w : World) (ho : Ops w a len os) :
    Calls Try.prog 8 #[.int .u32 a0, .int .u8 a1, .slice a len cap, .int .u8 a3] w fun e w' => e = .returned (.bool true) ∧ Below w.heap.size w w' := by
  have HO : Hid (Ops w a len os) := ho
  obtain ⟨h00, h01⟩ := h0
  obtain ⟨h10, h11⟩ := h1
  obtain ⟨h30, h31⟩ := h3
  have hl1 := ho.2.1
  clear ho
  by_cases hb : 100 < len
  · go_enter Try.func8, Try.ntmps8
    go_wp2_with fail
    refine (known_any _).mono ?_
    rintro e u2 ⟨rfl, b2⟩
    go_wp2_with fail
    go_ret
    exact ⟨rfl, b2⟩
  · go_enter Try.func8, Try.ntmps8
    go_wp2_with fail
    refine (known_any _).mono ?_
    rintro e u0 ⟨rfl, b0⟩
    go_wp2_with fail
    refine (new_good a0 (1 + a1 % 8) (by omega) (by omega) _).mono ?_
    rintro e u1 ⟨p, rfl, hp, k1, b1⟩
    have HP : Hid (p = u0.heap.size) := hp
    have K1 : Hid (Rcv u1 p a0 (1 + a1 % 8) 0) := k1
    clear hp k1
    go_wp2_with fail
    refine (rnew_good a0 (1 + a1 % 8) (by omega) (by omega) _).mono ?_
    rintro e u2 ⟨q, rfl, hq, k2, b2⟩
    have H2 : Hid (Duo w u2 p q a0 (1 + a1 % 8) 0) := ⟨K1.out.on b2, k2, by have := K1.out.lt; omega, by have := b0.size; have := HP.out; omega, by have := b0.size; have := b1.size; omega, later (later b0 b1) b2⟩
    clear K1 k2 b0 b1 b2 HP hq
    go_wp2_with fail
    refine (limit_any H2.out.rcv (by omega) (a0 + (1 + a1 % 8)) (by omega)).mono ?_
    rintro e u3 ⟨rfl, j, hw3⟩
    have H3 : Hid (Duo w u3 p q a0 (1 + a1 % 8) 0) := by rw [hw3]; exact H2.out.on (drewN_below _ _)
    clear hw3 H2
    go_wp2_with fail
    go_loopw [12, 13] (fun t i wr => ∃ (k : Nat) (n h l : Int), k ≤ len ∧ i = .int .i64 k ∧ t = .int .u64 l ∧ 1 ≤ l ∧ l ≤ n + (1 + a1 % 8 - h) ∧ n ≤ a0 + 8 * k ∧ Duo w wr p q n (1 + a1 % 8) h) (fun _ i _ => len - (intOf i).toNat)
    case atStart => exact ⟨0, a0, 0, a0 + (1 + a1 % 8), Nat.zero_le _, rfl, rfl, by omega, by omega, by omega, H3.out⟩
    case round =>
      obtain ⟨k, n, h, l, hk, rfl, rfl, hlo1, hlo, hn8, hd⟩ := hrel
      have HD : Hid (Duo w wr p q n (1 + a1 % 8) h) := hd
      have hn0 := hd.rcv.n0
      have hh0 := hd.rcv.h0
      have hhr := hd.rcv.hr
      clear hd H3
      by_cases hkl : k < len
      · obtain ⟨b, off, v, rfl, hat⟩ := HO.out.at hkl
        have hat2 := hat.below HD.out.low
        obtain ⟨q1, q2, q3, hk8, hn16, hs16⟩ := hat2
        obtain ⟨vk, vn, vs⟩ := v
        simp only at q1 q2 q3 hk8 hn16 hs16
        clear hat
        go_wp2_with fail
        refine (does_any HD.out (by omega) vk vn vs (by omega) (by omega) (by omega)).mono ?_
        rintro e u5 ⟨n', h', ⟨x, rfl⟩, d5, up⟩
        have HD5 : Hid (Duo w u5 p q n' (1 + a1 % 8) h') := d5
        have g1 := d5.rcv.h0
        have g2 := d5.rcv.hr
        have g3 := up.n1
        have g4 := up.n2
        have g5 := up.l
        clear d5 up q1 q2 q3 HD
        go_wp2_with fail
        · refine (limit_any HD5.out.rcv (by omega) (n' + (1 + a1 % 8 - h')) rfl).mono ?_
          rintro e u6 ⟨rfl, j, hw6⟩
          have HD6 : Hid (Duo w u6 p q n' (1 + a1 % 8) h') := by rw [hw6]; exact HD5.out.on (drewN_below _ _)
          clear hw6 HD5
          go_wp2_with fail
          go_roundw
          case rel => exact ⟨k + 1, n', h', n' + (1 + a1 % 8 - h'), by omega, by go_num, rfl, by omega, by omega, by omega, HD6.out⟩
          case measure => simp [intOf]; omega
        · go_roundw
          case rel => exact ⟨k + 1, n', h', l, by omega, by go_num, rfl, by omega, by omega, by omega, HD5.out⟩
          case measure => simp [intOf]; omega
      · by_cases hle : l ≤ n
        · go_wp2_with fail
          refine (expects_any HD.out.rcv).mono ?_
          rintro e u4 ⟨rfl, rfl⟩
          go_wp2_with fail
          refine (limit_any HD.out.rcv (by omega) (n + (1 + a1 % 8 - h)) rfl).mono ?_
          rintro e u5 ⟨rfl, j, hw5⟩
          have H5 : Hid (Duo w u5 p q n (1 + a1 % 8) h) := by rw [hw5]; exact HD.out.on (drewN_below _ _)
          clear hw5 HD
          go_wp2_with fail
          go_ret
          exact ⟨ret_bool (by first | (simp; done) | (simp; omega)), H5.out.low⟩
        · go_wp2_with fail
          refine (expects_any HD.out.rcv).mono ?_
          rintro e u4 ⟨rfl, rfl⟩
          go_wp2_with fail
          refine (come_ok HD.out.rcv (by omega) _ (by omega) (l - 1) (widI_is (by omega) (by omega) (by omega) (by omega) (by omega)) (by omega)).mono ?_
          rintro e u5 ⟨rfl, k5, s5⟩
          have H5 : Hid (Duo w u5 p q (l - 1 + 1) (1 + a1 % 8) (h + 1)) := HD.out.mine k5 s5
          clear k5 s5 HD
          go_wp2_with fail
          refine (held_any H5.out.rcv).mono ?_
          rintro e u6 ⟨rfl, rfl⟩
          go_wp2_with fail
          go_ret
          exact ⟨ret_bool (by first | (simp; done) | (simp; omega)), H5.out.low⟩
theorem bufferRoom_any (_ : True) (w : World) (a0 : Int) (w0 : (Lit.int .u32 a0).wf = true) (a1 : Int) (w1 : (Lit.int .u8 a1).wf = true) (a : Option Addr) (len cap : Nat) (os : List OpV) (ho : Ops w a len os) (a3 : Int) (w3 : (Lit.int .u8 a3).wf = true) :
    Calls Try.prog 8 #[.int .u32 a0, .int .u8 a1, .slice a len cap, .int .u8 a3] w fun e w' => e = .returned (.bool true) ∧ Below w.heap.size w w' :=
  bufferRoom_walk a0 a1 (bounds_u32 w0) (bounds_u8 w1) a len cap os a3 (bounds_u8 w3) w ho
end Go.Proofs.Ytcmfnhakmjginaa
