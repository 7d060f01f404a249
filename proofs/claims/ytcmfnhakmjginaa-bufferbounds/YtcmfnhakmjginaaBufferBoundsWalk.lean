/-
  The law BufferBounds of package shunterlaw06, over a slice of calls that is handed in. Conditions: that the numbers are of their kinds, and the slice leads to calls.
-/
import Derived.Test.YtcmfnhakmjginaaBufferOps
namespace Go.Proofs.Ytcmfnhakmjginaa
open Go.ChangeShapes Go.WideShapes Go.ChangeAt Go.RowKit
set_option linter.unusedVariables false

set_option maxRecDepth 100000 in
set_option maxHeartbeats 4000000 in
theorem bufferBounds_walk (a0 a1 : Int) (h0 : 0 ≤ a0 ∧ a0 ≤ 4294967295) (h1 : 0 ≤ a1 ∧ a1 ≤ 255) (a : Option Addr) (len cap : Nat) (os : List OpV) (w : World) (ho : Ops w a len os) :
    Calls Try.prog 6 #[.int .u32 a0, .int .u8 a1, .slice a len cap] w fun e w' => e = .returned (.bool true) ∧ Below w.heap.size w w' := by
  have HO : Hid (Ops w a len os) := ho
  obtain ⟨h00, h01⟩ := h0
  obtain ⟨h10, h11⟩ := h1
  have hl1 := ho.2.1
  clear ho
  by_cases hb : 200 < len
  · go_enter Try.func6, Try.ntmps6
    go_wp2_with fail
    refine (known_any _).mono ?_
    rintro e u2 ⟨rfl, b2⟩
    go_wp2_with fail
    go_ret
    exact ⟨rfl, b2⟩
  · go_enter Try.func6, Try.ntmps6
    go_wp2_with fail
    refine (known_any _).mono ?_
    rintro e u0 ⟨rfl, b0⟩
    go_wp2_with fail
    refine (new_good a0 (1 + a1 % 8) (by omega) (by omega) _).mono ?_
    rintro e u1 ⟨p, rfl, hp, k1, b1⟩
    have HP : Hid (p = u0.heap.size) := hp
    have K1 : Hid (Rcv u1 p a0 (1 + a1 % 8) 0) := k1
    clear hp k1
    go_wp2_with fail
    refine (rnew_good a0 (1 + a1 % 8) (by omega) (by omega) _).mono ?_
    rintro e u2 ⟨q, rfl, hq, k2, b2⟩
    have H2 : Hid (Duo w u2 p q a0 (1 + a1 % 8) 0) := ⟨K1.out.on b2, k2, by have := K1.out.lt; omega, by have := b0.size; have := HP.out; omega, by have := b0.size; have := b1.size; omega, later (later b0 b1) b2⟩
    clear K1 k2 b0 b1 b2 HP hq
    go_wp2_with fail
    go_loopw [10, 11, 12] (fun i _ _ wr => ∃ (k : Nat) (n h : Int), k ≤ len ∧ i = .int .i64 k ∧ n ≤ a0 + 8 * k ∧ Duo w wr p q n (1 + a1 % 8) h) (fun i _ _ _ => len - (intOf i).toNat)
    case atStart => exact ⟨0, a0, 0, Nat.zero_le _, rfl, by omega, H2.out⟩
    case round =>
      obtain ⟨k, n, h, hk, rfl, hn8, hd⟩ := hrel
      have HD : Hid (Duo w wr p q n (1 + a1 % 8) h) := hd
      have hn0 := hd.rcv.n0
      have hh0 := hd.rcv.h0
      have hhr := hd.rcv.hr
      clear hd H2
      by_cases hkl : k < len
      · obtain ⟨b, off, v, rfl, hat⟩ := HO.out.at hkl
        have HA : Hid (OpAt w b (off + k * 3) v) := hat
        clear hat
        go_wp2_with fail
        refine (limit_any HD.out.rcv (by omega) (n + (1 + a1 % 8 - h)) rfl).mono ?_
        rintro e u3 ⟨rfl, j, hw3⟩
        have HD3 : Hid (Duo w u3 p q n (1 + a1 % 8) h) := by rw [hw3]; exact HD.out.on (drewN_below _ _)
        clear hw3 HD
        go_wp2_with fail
        refine (expects_any HD3.out.rcv).mono ?_
        rintro e u4 ⟨rfl, rfl⟩
        have hat := HA.out.below HD3.out.low
        obtain ⟨q1, q2, q3, hk8, hn16, hs16⟩ := hat
        obtain ⟨vk, vn, vs⟩ := v
        simp only at q1 q2 q3 hk8 hn16 hs16
        go_wp2_with fail
        refine (does_any HD3.out (by omega) vk vn vs (by omega) (by omega) (by omega)).mono ?_
        rintro e u5 ⟨n', h', ⟨x, rfl⟩, d5, up⟩
        have HD5 : Hid (Duo w u5 p q n' (1 + a1 % 8) h') := d5
        have g1 := d5.rcv.h0
        have g2 := d5.rcv.hr
        have g3 := up.n1
        have g4 := up.n2
        have g5 := up.l
        clear d5 up q1 q2 q3 HD3
        go_wp2_with fail
        refine (held_any HD5.out.rcv).mono ?_
        rintro e u5 ⟨rfl, rfl⟩
        go_wp2_with fail
        refine (held_any HD5.out.rcv).mono ?_
        rintro e u5 ⟨rfl, rfl⟩
        go_wp2_with fail
        refine (limit_any HD5.out.rcv (by omega) (n' + (1 + a1 % 8 - h')) rfl).mono ?_
        rintro e u6 ⟨rfl, j, hw6⟩
        have HD6 : Hid (Duo w u6 p q n' (1 + a1 % 8) h') := by rw [hw6]; exact HD5.out.on (drewN_below _ _)
        clear hw6 HD5
        go_wp2_with fail
        refine (expects_any HD6.out.rcv).mono ?_
        rintro e u6 ⟨rfl, rfl⟩
        go_wp2_with fail
        refine (limit_any HD6.out.rcv (by omega) (n' + (1 + a1 % 8 - h')) rfl).mono ?_
        rintro e u7 ⟨rfl, j, hw7⟩
        have HD7 : Hid (Duo w u7 p q n' (1 + a1 % 8) h') := by rw [hw7]; exact HD6.out.on (drewN_below _ _)
        clear hw7 HD6
        go_wp2_with fail
        refine (expects_any HD7.out.rcv).mono ?_
        rintro e u7 ⟨rfl, rfl⟩
        go_wp2_with fail
        refine (held_any HD7.out.rcv).mono ?_
        rintro e u7 ⟨rfl, rfl⟩
        go_wp2_with fail
        go_roundw
        case rel => exact ⟨k + 1, n', h', by omega, by go_num, by omega, HD7.out⟩
        case measure => simp [intOf]; omega
      · go_wp2_with fail
        go_ret
        exact ⟨rfl, HD.out.low⟩
theorem bufferBounds_any (_ : True) (w : World) (a0 : Int) (w0 : (Lit.int .u32 a0).wf = true) (a1 : Int) (w1 : (Lit.int .u8 a1).wf = true) (a : Option Addr) (len cap : Nat) (os : List OpV) (ho : Ops w a len os) :
    Calls Try.prog 6 #[.int .u32 a0, .int .u8 a1, .slice a len cap] w fun e w' => e = .returned (.bool true) ∧ Below w.heap.size w w' :=
  bufferBounds_walk a0 a1 (bounds_u32 w0) (bounds_u8 w1) a len cap os w ho
end Go.Proofs.Ytcmfnhakmjginaa
