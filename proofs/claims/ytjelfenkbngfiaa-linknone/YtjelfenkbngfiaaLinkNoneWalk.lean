/-
  The law LinkNone of package shunterlaw04, out of what package link comes to. Conditions: that package link comes to it (LinkSpec), and the slice leads to calls.
-/
import Derived.Test.YtjelfenkbngfiaaLinkMine
namespace Go.Proofs.Ytjelfenkbngfiaa
open Go.ChangeShapes Go.WideShapes Go.ChangeAt Go.RowKit
set_option linter.unusedVariables false
variable {L : World → (Nat → Prop) → Nat → Nat → List (List Nat) → Prop}

set_option maxRecDepth 100000 in
set_option maxHeartbeats 4000000 in
theorem linkNone_any (S : LinkSpec L) (w : World) (a0 : Option Addr) (len0 cap0 : Nat) (os : List OpV) (ho : Ops w a0 len0 os) (far : Int) (hfar : (Lit.int .u8 far).wf = true) (x : Int) (hx : (Lit.int .u8 x).wf = true) :
    Calls Try.prog 5 #[.slice a0 len0 cap0, .int .u8 far, .int .u8 x] w fun e w' => e = .returned (.bool true) ∧ Below w.heap.size w w' := by
  have HO : Hid (Ops w a0 len0 os) := ho
  have hl1 := ho.2.1
  have bf := bounds_u8 hfar
  have bx := bounds_u8 hx
  obtain ⟨f, rfl⟩ := Int.eq_ofNat_of_zero_le bf.1
  obtain ⟨y, rfl⟩ := Int.eq_ofNat_of_zero_le bx.1
  have hf8 : f < 256 := by omega
  have hy8 : y < 256 := by omega
  clear ho hfar hx bf bx
  cases hh : tooMuch os with
  | true =>
    have HH : Hid (tooMuch os = true) := hh
    clear hh
    go_enter Try.func5, Try.ntmps5
    go_wp2_with fail
    refine (heavy_is a0 len0 cap0 os _ HO.out true HH.out).mono ?_
    rintro e u1 ⟨rfl, rfl⟩
    go_wp2_with fail
    refine (known_any S _).mono ?_
    rintro e u2 ⟨rfl, b2⟩
    go_wp2_with fail
    go_ret
    exact ⟨rfl, b2⟩
  | false =>
    have HH : Hid (tooMuch os = false) := hh
    have hlen : len0 ≤ 100 ∧ bulk os ≤ 3000 := by
      unfold tooMuch at hh
      have := of_decide_eq_false hh
      rw [HO.out.1] at this
      omega
    have HBk : Hid (bulk os ≤ 3000) := hlen.2
    have hl100 := hlen.1
    clear hh hlen
    go_enter Try.func5, Try.ntmps5
    go_wp2_with fail
    refine (heavy_is a0 len0 cap0 os _ HO.out false HH.out).mono ?_
    rintro e u1 ⟨rfl, rfl⟩
    go_wp2_with fail
    refine (known_any S _).mono ?_
    rintro e u2 ⟨rfl, b2⟩
    go_wp2_with fail
    refine (mine_new S 64 u1 _ (by omega) b2).mono ?_
    rintro e u3 ⟨p, rfl, m3⟩
    have HM3 : Hid (Mine L u1 u3 p 64 []) := m3
    clear m3 b2
    go_wp2_with fail
    go_loopw [8] (fun i wr => ∃ (k : Nat), k ≤ len0 ∧ i = .int .i64 k ∧ Mine L u1 wr p 64 (sent os k 64)) (fun i _ => len0 - (intOf i).toNat)
    case atStart => exact ⟨0, Nat.zero_le _, rfl, HM3.out⟩
    case round =>
      obtain ⟨k, hk, rfl, hm⟩ := hrel
      have HM : Hid (Mine L u1 wr p 64 (sent os k 64)) := hm
      clear hm HM3
      by_cases hkl : k < len0
      · obtain ⟨b, off, rfl, hat⟩ := HO.out.at hkl
        obtain ⟨v, hv⟩ : ∃ v, os.getD k zop = v := ⟨_, rfl⟩
        have hvl : (os.getD k zop).len ≤ 1000000 := by have := len_le_bulk (os := os) (k := k) (by rw [HO.out.1]; exact hkl); have := HBk.out; omega
        have HS : Hid (sent os (k + 1) 64 = if k < 64 then sent os k 64 ++ [v.l] else sent os k 64) := by rw [← hv]; exact sent_succ (by rw [HO.out.1]; exact hkl)
        have HT : Hid ((sent os k 64).length = min k 64) := sent_length (by rw [HO.out.1]; exact hk)
        rw [hv] at hat hvl
        have A4 := hat.below HM.out.below
        obtain ⟨q1, q2, q3, q4, q5, hok⟩ := id A4
        have HK : Hid (v.ok wr) := hok
        obtain ⟨vk, va, vl, vc, vt, vi, vat, vx⟩ := v
        simp only at q1 q2 q3 q4 q5 hvl
        clear hv hat A4 hok
        go_wp2_with fail
        by_cases hf : k < 64
        · refine (mine_send S va vl vc vt HM.out (by rw [HT.out]; omega) HK.out.1 HK.out.2.1 hvl).mono ?_
          rintro e u5 ⟨rfl, m5⟩
          have HM5 : Hid (Mine L u1 u5 p 64 (sent os k 64 ++ [vt])) := m5
          clear m5 q1 q2 q3 q4 q5
          go_wp2_with fail
          go_roundw
          case rel => exact ⟨k + 1, by omega, by go_num, by rw [HS.out, if_pos hf]; exact HM5.out⟩
          case measure => simp [intOf]; omega
        · refine (mine_full S va vl vc vt HM.out (by rw [HT.out]; omega) HK.out.1 HK.out.2.1 hvl).mono ?_
          rintro e u5 ⟨rfl, m5⟩
          have HM5 : Hid (Mine L u1 u5 p 64 (sent os k 64)) := m5
          clear m5 q1 q2 q3 q4 q5
          go_wp2_with fail
          go_roundw
          case rel => exact ⟨k + 1, by omega, by go_num, by rw [HS.out, if_neg hf]; exact HM5.out⟩
          case measure => simp [intOf]; omega
      · obtain rfl : k = len0 := by omega
        obtain ⟨ts, hts⟩ : ∃ ts, sent os k 64 = ts := ⟨_, rfl⟩
        have hm := HM.out
        rw [hts] at hm
        have hsz := hm.size S
        obtain ⟨n, hn⟩ : ∃ n, ts.length = n := ⟨_, rfl⟩
        have HN : Hid (ts.length = n) := hn
        rw [hn] at hsz
        have HM' : Hid (Mine L u1 wr p 64 ts) := hm
        clear hts hm hn HM
        go_wp2_with fail
        refine (mine_all S HM'.out n HN.out).mono ?_
        rintro e u4 ⟨a4, c4, rs4, rfl, t4, hx4, hc4, hd4, m4, b4⟩
        have HM4 : Hid (Mine L u1 u4 p 64 ts) := m4
        clear t4 hx4 m4
        go_wp2_with fail
        refine (mine_untaken S ((n : Int) + f) HM4.out (by omega) (by rw [HN.out]; omega)).mono ?_
        rintro e u5 ⟨a5, n5, c5, rfl, m5, o5⟩
        have HM5 : Hid (Mine L u1 u5 p 64 ts) := m5
        clear m5 o5
        go_wp2_with fail
        refine (mine_untaken S (-1) HM5.out (by omega) (by omega)).mono ?_
        rintro e u6 ⟨a6, n6, c6, rfl, m6, o6⟩
        have HM6 : Hid (Mine L u1 u6 p 64 ts) := m6
        clear m6 o6
        go_wp2_with fail
        refine (mine_untwice S ((n : Int) + f) HM6.out (by omega) (by rw [HN.out]; omega)).mono ?_
        rintro e u7 ⟨rfl, m7⟩
        have HM7 : Hid (Mine L u1 u7 p 64 ts) := m7
        clear m7
        go_wp2_with fail
        refine (mine_unbent S ((n : Int) + f) 0 y HM7.out (by omega) (by omega) hy8 (.inr (.inl (by rw [HN.out]; omega)))).mono ?_
        rintro e u8 ⟨rfl, m8⟩
        have HM8 : Hid (Mine L u1 u8 p 64 ts) := m8
        clear m8
        go_wp2_with fail
        refine (mine_unbent S 0 (-1) y HM8.out (by omega) (by omega) hy8 (.inr (.inr (.inl (by omega))))).mono ?_
        rintro e u9 ⟨rfl, m9⟩
        have HM9 : Hid (Mine L u1 u9 p 64 ts) := m9
        clear m9
        go_wp2_with fail
        refine (mine_unbent S 0 0 0 HM9.out (by omega) (by omega) (by omega) (.inr (.inr (.inr (.inl rfl))))).mono ?_
        rintro e v1 ⟨rfl, m10⟩
        have HM10 : Hid (Mine L u1 v1 p 64 ts) := m10
        clear m10
        go_wp2_with fail
        refine (mine_all S HM10.out n HN.out).mono ?_
        rintro e v2 ⟨a2, c2, rs2, rfl, t2, hx2, hc2, hd2, m11, b11⟩
        have HM11 : Hid (Mine L u1 v2 p 64 ts) := m11
        clear t2 hx2 m11
        go_wp2_with fail
        go_ret
        exact ⟨rfl, HM11.out.below⟩
end Go.Proofs.Ytjelfenkbngfiaa
