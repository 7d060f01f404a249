/-
  The law LinkRoom of package shunterlaw04, out of what package link comes to. Conditions: that package link comes to it (LinkSpec), and the slice leads to calls.
-/
import Derived.Test.YtjelfenkbngfiaaLinkMine
namespace Go.Proofs.Ytjelfenkbngfiaa
open Go.ChangeShapes Go.WideShapes Go.ChangeAt Go.RowKit
set_option linter.unusedVariables false
variable {L : World → (Nat → Prop) → Nat → Nat → List (List Nat) → Prop}

set_option maxRecDepth 100000 in
set_option maxHeartbeats 4000000 in
theorem linkRoom_walk (S : LinkSpec L) (z : Int) (hz : -9223372036854775808 ≤ z ∧ z ≤ 9223372036854775807) (a0 : Option Addr) (len0 cap0 : Nat) (os : List OpV) (w : World) (ho : Ops w a0 len0 os) :
    Calls Try.prog 3 #[.int .i64 z, .slice a0 len0 cap0] w fun e w' => e = .returned (.bool true) ∧ Below w.heap.size w w' := by
  have HO : Hid (Ops w a0 len0 os) := ho
  have hl1 := ho.2.1
  clear ho
  cases hh : tooMuch os with
  | true =>
    have HH : Hid (tooMuch os = true) := hh
    clear hh
    go_enter Try.func3, Try.ntmps3
    go_wp2_with fail
    refine (heavy_is a0 len0 cap0 os _ HO.out true HH.out).mono ?_
    rintro e u1 ⟨rfl, rfl⟩
    go_wp2_with fail
    refine (known_any S _).mono ?_
    rintro e u2 ⟨rfl, b2⟩
    go_wp2_with fail
    go_ret
    exact ⟨rfl, b2⟩
  | false =>
    have HH : Hid (tooMuch os = false) := hh
    have hlen : len0 ≤ 100 ∧ bulk os ≤ 3000 := by
      unfold tooMuch at hh
      have := of_decide_eq_false hh
      rw [HO.out.1] at this
      omega
    have HBk : Hid (bulk os ≤ 3000) := hlen.2
    have hl100 := hlen.1
    clear hh hlen
    by_cases hr : z < 1 ∨ 64 < z
    · have HZ : Hid (z < 1 ∨ 64 < z) := hr
      have hd : (decide (z < 1) || decide (64 < z)) = true := by simpa using hr
      clear hr
      go_enter Try.func3, Try.ntmps3
      go_wp2_with fail
      refine (heavy_is a0 len0 cap0 os _ HO.out false HH.out).mono ?_
      rintro e u1 ⟨rfl, rfl⟩
      go_wp2_with fail
      refine (known_any S _).mono ?_
      rintro e u2 ⟨rfl, b2⟩
      go_wp2_with fail
      refine (S.new_bad z _ hz HZ.out).mono ?_
      rintro e u3 ⟨rfl, b3⟩
      go_wp2_with fail
      all_goals
        go_ret
        exact ⟨ret_bool (by first | rfl | simpa using HZ.out | (have := HZ.out; simp; omega)), later b2 b3⟩
    · obtain ⟨room, rfl⟩ := Int.eq_ofNat_of_zero_le (a := z) (by omega)
      have hr1 : 1 ≤ room := by omega
      have hr2 : room ≤ 64 := by omega
      clear hr hz
      go_enter Try.func3, Try.ntmps3
      go_wp2_with fail
      refine (heavy_is a0 len0 cap0 os _ HO.out false HH.out).mono ?_
      rintro e u1 ⟨rfl, rfl⟩
      go_wp2_with fail
      refine (known_any S _).mono ?_
      rintro e u2 ⟨rfl, b2⟩
      go_wp2_with fail
      refine (mine_new S room u1 _ ⟨hr1, hr2⟩ b2).mono ?_
      rintro e u3 ⟨p, rfl, m3⟩
      have HM3 : Hid (Mine L u1 u3 p room []) := m3
      clear m3 b2
      go_wp2_with fail
      go_loopw [6] (fun i wr => ∃ (k : Nat) (ts : List (List Nat)), k ≤ len0 ∧ i = .int .i64 k ∧ Mine L u1 wr p room ts) (fun i _ => len0 - (intOf i).toNat)
      case atStart => exact ⟨0, [], Nat.zero_le _, rfl, HM3.out⟩
      case round =>
        obtain ⟨k, ts, hk, rfl, hm⟩ := hrel
        have HM : Hid (Mine L u1 wr p room ts) := hm
        have hsz := hm.size S
        obtain ⟨n, hn⟩ : ∃ n, ts.length = n := ⟨_, rfl⟩
        have HN : Hid (ts.length = n) := hn
        rw [hn] at hsz
        clear hm hn HM3
        by_cases hkl : k < len0
        · obtain ⟨b, off, rfl, hat⟩ := HO.out.at hkl
          obtain ⟨v, hv⟩ : ∃ v, os.getD k zop = v := ⟨_, rfl⟩
          have hvl : (os.getD k zop).len ≤ 1000000 := by have := len_le_bulk (os := os) (k := k) (by rw [HO.out.1]; exact hkl); have := HBk.out; omega
          rw [hv] at hat hvl
          have HA : Hid (OpAt u1 b (off + k * 5) v) := hat
          clear hv hat
          go_wp2_with fail
          refine (mine_all S HM.out n HN.out).mono ?_
          rintro e u4 ⟨a4, c4, rs4, rfl, t4, hx4, hc4, hd4, m4, b4⟩
          have A4 := HA.out.below m4.below
          obtain ⟨q1, q2, q3, q4, q5, hok⟩ := id A4
          have HA4 : Hid (OpAt u4 b (off + k * 5) v) := A4
          have HM4 : Hid (Mine L u1 u4 p room ts) := m4
          have HK : Hid (v.ok u4) := hok
          obtain ⟨_, hbn, _, _, hk8, hx8, hi1, hi2, _, _⟩ := hok
          obtain ⟨vk, va, vl, vc, vt, vi, vat, vx⟩ := v
          simp only at q1 q2 q3 q4 q5 hk8 hx8 hi1 hi2 hvl
          clear t4 hx4 m4 A4 HM hbn
          by_cases hev : vk % 2 = 0
          · have he : ((vk : Int) % 2 == 0) = true := by simp; omega
            clear hev
            go_wp2_with fail
            by_cases hfull : room ≤ n
            · obtain rfl : n = room := by omega
              refine (mine_full S va vl vc vt HM4.out (by rw [HN.out]; exact Nat.le_refl _) HK.out.1 HK.out.2.1 hvl).mono ?_
              rintro e u5 ⟨rfl, m5⟩
              have HM5 : Hid (Mine L u1 u5 p n ts) := m5
              clear m5
              go_wp2_with fail
              refine (mine_all S HM5.out n HN.out).mono ?_
              rintro e u6 ⟨a6, c6, rs6, rfl, t6, hx6, hc6, hd6, m6, b6⟩
              have HM6 : Hid (Mine L u1 u6 p n ts) := m6
              clear t6 hx6 m6 q1 q2 q3 q4 q5
              go_wp2_with fail
              go_roundw
              case rel => exact ⟨k + 1, ts, by omega, by go_num, HM6.out⟩
              case measure => simp [intOf]; omega
            · refine (mine_send S va vl vc vt HM4.out (by rw [HN.out]; omega) HK.out.1 HK.out.2.1 hvl).mono ?_
              rintro e u5 ⟨rfl, m5⟩
              have HM5 : Hid (Mine L u1 u5 p room (ts ++ [vt])) := m5
              clear m5
              have hlt : (n : Int) < room := by omega
              go_wp2_with fail
              refine (mine_all S HM5.out (n + 1) (by rw [List.length_append, HN.out]; rfl)).mono ?_
              rintro e u6 ⟨a6, c6, rs6, rfl, t6, hx6, hc6, hd6, m6, b6⟩
              have HM6 : Hid (Mine L u1 u6 p room (ts ++ [vt])) := m6
              clear t6 hx6 m6 q1 q2 q3 q4 q5
              go_wp2_with fail
              go_roundw
              case rel => exact ⟨k + 1, ts ++ [vt], by omega, by go_num, HM6.out⟩
              case measure => simp [intOf]; omega
          · have he : ((vk : Int) % 2 == 0) = false := by simp; omega
            clear hev
            go_wp2_with fail
            by_cases hin : vi < 0 ∨ (n : Int) ≤ vi
            · refine (mine_untaken S vi HM4.out ⟨hi1, hi2⟩ (by rw [HN.out]; exact hin)).mono ?_
              rintro e u5 ⟨a5, n5, c5, rfl, m5, o5⟩
              obtain ⟨r1, r2, r3, r4, r5, _⟩ := HA.out.below m5.below
              simp only at r1 r2 r3 r4 r5
              have HM5 : Hid (Mine L u1 u5 p room ts) := m5
              clear m5 o5 q1 q2 q3 q4 q5
              rcases hin with hin | hin
              · go_wp2_with fail
                go_roundw
                case rel => exact ⟨k + 1, ts, by omega, by go_num, HM5.out⟩
                case measure => simp [intOf]; omega
              · have h0 : 0 ≤ vi := by omega
                go_wp2_with fail
                go_roundw
                case rel => exact ⟨k + 1, ts, by omega, by go_num, HM5.out⟩
                case measure => simp [intOf]; omega
            · obtain ⟨i, rfl⟩ := Int.eq_ofNat_of_zero_le (a := vi) (by omega)
              have hin2 : (i : Int) < n := by omega
              refine (mine_take S i HM4.out (by rw [HN.out]; omega)).mono ?_
              rintro e u5 ⟨a5, n5, c5, rfl, m5, o5⟩
              obtain ⟨r1, r2, r3, r4, r5, _⟩ := HA.out.below m5.below
              simp only at r1 r2 r3 r4 r5
              have HM5 : Hid (Mine L u1 u5 p room (ts.eraseIdx i)) := m5
              clear m5 o5 q1 q2 q3 q4 q5 hin
              go_wp2_with fail
              go_roundw
              case rel => exact ⟨k + 1, ts.eraseIdx i, by omega, by go_num, HM5.out⟩
              case measure => simp [intOf]; omega
        · obtain rfl : k = len0 := by omega
          go_wp2_with fail
          refine (mine_all S HM.out n HN.out).mono ?_
          rintro e u4 ⟨a4, c4, rs4, rfl, t4, hx4, hc4, hd4, m4, b4⟩
          have HM4 : Hid (Mine L u1 u4 p room ts) := m4
          clear t4 hx4 m4
          have h1 : (1 : Int) ≤ room := by omega
          have h2 : (room : Int) ≤ 64 := by omega
          have h3 : (n : Int) ≤ room := by omega
          go_wp2_with fail
          go_ret
          exact ⟨ret_bool (by simp), HM4.out.below⟩
theorem linkRoom_any (S : LinkSpec L) (w : World) (z : Int) (hz : (Lit.int .i64 z).wf = true) (a0 : Option Addr) (len0 cap0 : Nat) (os : List OpV) (ho : Ops w a0 len0 os) :
    Calls Try.prog 3 #[.int .i64 z, .slice a0 len0 cap0] w fun e u => e = .returned (.bool true) ∧ Below w.heap.size w u :=
  linkRoom_walk S z (bounds_i64 hz) a0 len0 cap0 os w ho
end Go.Proofs.Ytjelfenkbngfiaa
