/-
  The law LinkTakes of package shunterlaw04, out of what package link comes to. Conditions: that package link comes to it (LinkSpec), and the slice leads to calls.
-/
import Derived.Test.YtjelfenkbngfiaaLinkKept
namespace Go.Proofs.Ytjelfenkbngfiaa
open Go.ChangeShapes Go.WideShapes Go.ChangeAt Go.RowKit
set_option linter.unusedVariables false
variable {L : World → (Nat → Prop) → Nat → Nat → List (List Nat) → Prop}

theorem erased {ts : List (List Nat)} {j k : Nat} : (ts.eraseIdx j).getD k [] = if k < j then ts.getD k [] else ts.getD (k + 1) [] := by
  simp only [List.getD_eq_getElem?_getD, List.getElem?_eraseIdx]
  split <;> rfl

set_option maxRecDepth 100000 in
set_option maxHeartbeats 4000000 in
theorem linkTakes_any (S : LinkSpec L) (w : World) (a0 : Option Addr) (len0 cap0 : Nat) (os : List OpV) (ho : Ops w a0 len0 os) (i0 : Int) (hi0 : (Lit.int .u8 i0).wf = true) :
    Calls Try.prog 4 #[.slice a0 len0 cap0, .int .u8 i0] w fun e w' => e = .returned (.bool true) ∧ Below w.heap.size w w' := by
  have HO : Hid (Ops w a0 len0 os) := ho
  have hl1 := ho.2.1
  have bi := bounds_u8 hi0
  obtain ⟨iv, rfl⟩ := Int.eq_ofNat_of_zero_le bi.1
  have hi8 : iv < 256 := by omega
  clear ho hi0 bi
  cases hh : tooMuch os with
  | true =>
    have HH : Hid (tooMuch os = true) := hh
    clear hh
    go_enter Try.func4, Try.ntmps4
    go_wp2_with fail
    refine (heavy_is a0 len0 cap0 os _ HO.out true HH.out).mono ?_
    rintro e u1 ⟨rfl, rfl⟩
    go_wp2_with fail
    refine (known_any S _).mono ?_
    rintro e u2 ⟨rfl, b2⟩
    go_wp2_with fail
    go_ret
    exact ⟨rfl, b2⟩
  | false =>
    have HH : Hid (tooMuch os = false) := hh
    have hlen : len0 ≤ 100 ∧ bulk os ≤ 3000 := by
      unfold tooMuch at hh
      have := of_decide_eq_false hh
      rw [HO.out.1] at this
      omega
    have HBk : Hid (bulk os ≤ 3000) := hlen.2
    have hl100 := hlen.1
    clear hh hlen
    by_cases hz0 : len0 = 0
    · subst hz0
      go_enter Try.func4, Try.ntmps4
      go_wp2_with fail
      refine (heavy_is a0 0 cap0 os _ HO.out false HH.out).mono ?_
      rintro e u1 ⟨rfl, rfl⟩
      go_wp2_with fail
      refine (known_any S _).mono ?_
      rintro e u2 ⟨rfl, b2⟩
      go_wp2_with fail
      go_ret
      exact ⟨rfl, b2⟩
    · go_enter Try.func4, Try.ntmps4
      go_wp2_with fail
      refine (heavy_is a0 len0 cap0 os _ HO.out false HH.out).mono ?_
      rintro e u1 ⟨rfl, rfl⟩
      go_wp2_with fail
      refine (known_any S _).mono ?_
      rintro e u2 ⟨rfl, b2⟩
      go_wp2_with fail
      refine (mine_new S 64 u1 _ (by omega) b2).mono ?_
      rintro e u3 ⟨p, rfl, m3⟩
      have HM3 : Hid (Mine L u1 u3 p 64 []) := m3
      clear m3 b2
      go_wp2_with fail
      go_loopw [6] (fun i wr => ∃ (k : Nat), k ≤ len0 ∧ i = .int .i64 k ∧ Mine L u1 wr p 64 (sent os k 64)) (fun i _ => len0 - (intOf i).toNat)
      case atStart => exact ⟨0, Nat.zero_le _, rfl, HM3.out⟩
      case round =>
        obtain ⟨k, hk, rfl, hm⟩ := hrel
        have HM : Hid (Mine L u1 wr p 64 (sent os k 64)) := hm
        clear hm HM3
        by_cases hkl : k < len0
        · obtain ⟨b, off, rfl, hat⟩ := HO.out.at hkl
          obtain ⟨v, hv⟩ : ∃ v, os.getD k zop = v := ⟨_, rfl⟩
          have hvl : (os.getD k zop).len ≤ 1000000 := by have := len_le_bulk (os := os) (k := k) (by rw [HO.out.1]; exact hkl); have := HBk.out; omega
          have HS : Hid (sent os (k + 1) 64 = if k < 64 then sent os k 64 ++ [v.l] else sent os k 64) := by rw [← hv]; exact sent_succ (by rw [HO.out.1]; exact hkl)
          have HT : Hid ((sent os k 64).length = min k 64) := sent_length (by rw [HO.out.1]; exact hk)
          rw [hv] at hat hvl
          have A4 := hat.below HM.out.below
          obtain ⟨q1, q2, q3, q4, q5, hok⟩ := id A4
          have HK : Hid (v.ok wr) := hok
          obtain ⟨vk, va, vl, vc, vt, vi, vat, vx⟩ := v
          simp only at q1 q2 q3 q4 q5 hvl
          clear hv hat A4 hok
          go_wp2_with fail
          by_cases hf : k < 64
          · refine (mine_send S va vl vc vt HM.out (by rw [HT.out]; omega) HK.out.1 HK.out.2.1 hvl).mono ?_
            rintro e u5 ⟨rfl, m5⟩
            have HM5 : Hid (Mine L u1 u5 p 64 (sent os k 64 ++ [vt])) := m5
            clear m5 q1 q2 q3 q4 q5
            go_wp2_with fail
            go_roundw
            case rel => exact ⟨k + 1, by omega, by go_num, by rw [HS.out, if_pos hf]; exact HM5.out⟩
            case measure => simp [intOf]; omega
          · refine (mine_full S va vl vc vt HM.out (by rw [HT.out]; omega) HK.out.1 HK.out.2.1 hvl).mono ?_
            rintro e u5 ⟨rfl, m5⟩
            have HM5 : Hid (Mine L u1 u5 p 64 (sent os k 64)) := m5
            clear m5 q1 q2 q3 q4 q5
            go_wp2_with fail
            go_roundw
            case rel => exact ⟨k + 1, by omega, by go_num, by rw [HS.out, if_neg hf]; exact HM5.out⟩
            case measure => simp [intOf]; omega
        · obtain rfl : k = len0 := by omega
          have HT : Hid ((sent os k 64).length = min k 64) := sent_length (by rw [HO.out.1]; exact hk)
          obtain ⟨ts, hts⟩ : ∃ ts, sent os k 64 = ts := ⟨_, rfl⟩
          have hm := HM.out
          have hTT := HT.out
          rw [hts] at hm hTT
          obtain ⟨q, hn⟩ : ∃ q, ts.length = q + 1 := ⟨ts.length - 1, by omega⟩
          have HN : Hid (ts.length = q + 1) := hn
          rw [hn] at hTT
          have hn64 : q < 64 := by omega
          obtain ⟨F, hL, hF, hb⟩ := hm
          have HL : Hid (L wr F p 64 ts) := hL
          have HF : Hid (∀ k, F k → u1.heap.size ≤ k) := hF
          have HB : Hid (Below u1.heap.size u1 wr) := hb
          clear hts hn HM hL hF hb HT hTT
          go_wp2_with fail
          refine (all_is S HL.out (q + 1) HN.out).mono ?_
          rintro e u4 ⟨a4, c4, rs4, rfl, t4, hx4, hc4, hd4, m4, b4⟩
          have K4 : Hid (Kept F u4 a4 (q + 1) rs4) := t4.kept (S.foot HL.out)
          have X4 : Hid (texts rs4 = ts) := hx4
          have HL4 : Hid (L u4 F p 64 ts) := m4
          have HB4 : Hid (Below u1.heap.size u1 u4) := later HB.out b4
          clear t4 hx4 m4 b4 HL HB
          have hne0 : ((q : Int) + 1 == 0) = false := by simp; omega
          go_wp2_with fail
          obtain ⟨j, hj, hjn⟩ : ∃ j : Nat, (iv : Int) % ((q : Int) + 1) = j ∧ j < q + 1 := ⟨iv % (q + 1), by simp, Nat.mod_lt _ (by omega)⟩
          rw [hj]
          clear hj
          refine (S.take_some j HL4.out (by rw [HN.out]; exact hjn)).mono ?_
          rintro e u5 ⟨F5, a5, n5, c5, rfl, m5, g5, o5, _⟩
          obtain ⟨ts2, hts2⟩ : ∃ ts2, ts.eraseIdx j = ts2 := ⟨_, rfl⟩
          have HTS : Hid (ts.eraseIdx j = ts2) := hts2
          rw [hts2] at m5
          have HN2 : Hid (ts2.length = q) := by rw [← hts2, List.length_eraseIdx, HN.out, if_pos hjn]; rfl
          have HL5 : Hid (L u5 F5 p 64 ts2) := m5
          have O5 : Hid (Octs u5 a5 n5 (ts.getD j [])) := o5
          have K5 : Hid (Kept F5 u5 a4 (q + 1) rs4) := K4.out.step g5
          have HB5 : Hid (Below u1.heap.size u1 u5) := HB4.out.trans (g5.1.below HB4.out.size HF.out)
          clear m5 g5 HL4 K4 HB4 HF hts2 o5
          go_wp2_with fail
          refine (all_is S HL5.out q HN2.out).mono ?_
          rintro e u6 ⟨a6, c6, rs6, rfl, t6, hx6, hc6, hd6, m6, b6⟩
          have T6 : Hid (Lines u6 a6 q rs6) := t6.lines
          have X6 : Hid (texts rs6 = ts2) := hx6
          have K6 : Hid (Kept F5 u6 a4 (q + 1) rs4) := K5.out.below b6
          have O6 : Hid (Octs u6 a5 n5 (ts.getD j [])) := O5.out.below b6
          have HB6 : Hid (Below u1.heap.size u1 u6) := later HB5.out b6
          clear t6 hx6 m6 b6 HL5 HB5 K5 O5
          obtain ⟨b2, off2, rfl, hlt2, hcell2, hok2⟩ := K6.out.lines.at (j := j) hjn
          have e2 : (rs4.getD j zrow).l = ts.getD j [] := texts_getD X4.out
          have k1 := fun m : Nat => str_run (cap := c5) (O6.out.below (drewN_below u6 m))
          have k2 := fun m : Nat => str_run (cap := (rs4.getD j zrow).cap) (hok2.1.below (drewN_below u6 m))
          rw [e2] at k2
          obtain ⟨r2, hr2⟩ : ∃ q, rs4.getD j zrow = q := ⟨_, rfl⟩
          rw [hr2] at hcell2 k2
          clear hr2 e2 hok2
          obtain ⟨sa, sl, sc, st⟩ := r2
          simp only at hcell2 k2
          obtain ⟨S1, hS1⟩ : ∃ S, S = strOf (ts.getD j []) := ⟨_, rfl⟩
          simp only [← hS1] at k1 k2
          clear hS1
          have he1 : (S1.toList == S1.toList) = true := beq_self_eq_true _
          have he2 : (S1.toList != S1.toList) = false := by rw [bne, he1]; rfl
          have i3 : (0 : Int) ≤ j := by omega
          have i4 : (j : Int) < (q : Int) + 1 := by omega
          have i6 : ((q : Int) != (q : Int) + 1 - 1) = false := by simp
          go_wp2_with fail
          go_quiet (fail)
          go_wp2_with fail
          clear k1 k2 hcell2 he1 he2
          go_loopw [12, 13] (fun i _ wr => ∃ k m : Nat, k ≤ q ∧ i = .int .i64 k ∧ wr = u6.drewN m) (fun i _ _ => q - (intOf i).toNat)
          case atStart => exact ⟨0, nq, Nat.zero_le _, rfl, rfl⟩
          case round =>
            obtain ⟨y, m, hy, rfl, rfl⟩ := hrel
            by_cases hyq : y < q
            · obtain ⟨b1, off1, rfl, hlt1, hcell1, hok1⟩ := T6.out.at (j := y) hyq
              have e1 : (rs6.getD y zrow).l = if y < j then ts.getD y [] else ts.getD (y + 1) [] := by rw [texts_getD X6.out, ← HTS.out]; exact erased
              by_cases hyj : j ≤ y
              · rw [if_neg (by omega)] at e1
                obtain ⟨b2', off2', eb2, hlt2', hcell2, hok2⟩ := K6.out.lines.at (j := (y + 1)) (by omega)
                obtain ⟨rfl, rfl⟩ : b2 = b2' ∧ off2 = off2' := by cases eb2; exact ⟨rfl, rfl⟩
                clear eb2
                have e2 : (rs4.getD (y + 1) zrow).l = ts.getD (y + 1) [] := texts_getD X4.out
                have k1 := fun z : Nat => str_run (cap := (rs6.getD y zrow).cap) (hok1.1.below (drewN_below u6 z))
                have k2 := fun z : Nat => str_run (cap := (rs4.getD (y + 1) zrow).cap) (hok2.1.below (drewN_below u6 z))
                rw [e1] at k1
                rw [e2] at k2
                obtain ⟨r1, hr1⟩ : ∃ q, rs6.getD y zrow = q := ⟨_, rfl⟩
                obtain ⟨r2, hr2⟩ : ∃ q, rs4.getD (y + 1) zrow = q := ⟨_, rfl⟩
                rw [hr1] at hcell1 k1
                rw [hr2] at hcell2 k2
                clear hr1 hr2 e1 e2 hok1 hok2
                obtain ⟨ra, rl, rc, rt⟩ := r1
                obtain ⟨sa, sl, sc, st⟩ := r2
                simp only at hcell1 hcell2 k1 k2
                obtain ⟨S1, hS1⟩ : ∃ S, S = strOf (ts.getD (y + 1) []) := ⟨_, rfl⟩
                simp only [← hS1] at k1 k2
                clear hS1
                have he1 : (S1.toList == S1.toList) = true := beq_self_eq_true _
                have he2 : (S1.toList != S1.toList) = false := by rw [bne, he1]; rfl
                have i1 : (0 : Int) ≤ y := by omega
                have i2 : (y : Int) < q := by omega
                have i5 : (0 : Int) ≤ (y : Int) + 1 := by omega
                have i7 : (y : Int) + 1 < (q : Int) + 1 := by omega
                have i8 : (y : Int) < (q : Int) + 1 := by omega
                have i9 : (j : Int) ≤ y := by omega
                go_wp2_with fail
                go_quiet (fail)
                go_wp2_with fail
                go_roundw
                case rel => exact ⟨y + 1, m + nq, by omega, by go_num, rfl⟩
                case measure => simp [intOf]; omega
              · rw [if_pos (by omega)] at e1
                obtain ⟨b2', off2', eb2, hlt2', hcell2, hok2⟩ := K6.out.lines.at (j := y) (by omega)
                obtain ⟨rfl, rfl⟩ : b2 = b2' ∧ off2 = off2' := by cases eb2; exact ⟨rfl, rfl⟩
                clear eb2
                have e2 : (rs4.getD y zrow).l = ts.getD y [] := texts_getD X4.out
                have k1 := fun z : Nat => str_run (cap := (rs6.getD y zrow).cap) (hok1.1.below (drewN_below u6 z))
                have k2 := fun z : Nat => str_run (cap := (rs4.getD y zrow).cap) (hok2.1.below (drewN_below u6 z))
                rw [e1] at k1
                rw [e2] at k2
                obtain ⟨r1, hr1⟩ : ∃ q, rs6.getD y zrow = q := ⟨_, rfl⟩
                obtain ⟨r2, hr2⟩ : ∃ q, rs4.getD y zrow = q := ⟨_, rfl⟩
                rw [hr1] at hcell1 k1
                rw [hr2] at hcell2 k2
                clear hr1 hr2 e1 e2 hok1 hok2
                obtain ⟨ra, rl, rc, rt⟩ := r1
                obtain ⟨sa, sl, sc, st⟩ := r2
                simp only at hcell1 hcell2 k1 k2
                obtain ⟨S1, hS1⟩ : ∃ S, S = strOf (ts.getD y []) := ⟨_, rfl⟩
                simp only [← hS1] at k1 k2
                clear hS1
                have he1 : (S1.toList == S1.toList) = true := beq_self_eq_true _
                have he2 : (S1.toList != S1.toList) = false := by rw [bne, he1]; rfl
                have i1 : (0 : Int) ≤ y := by omega
                have i2 : (y : Int) < q := by omega
                have i5 : (0 : Int) ≤ (y : Int) + 1 := by omega
                have i7 : (y : Int) + 1 < (q : Int) + 1 := by omega
                have i8 : (y : Int) < (q : Int) + 1 := by omega
                have i9 : ¬ (j : Int) ≤ y := by omega
                go_wp2_with fail
                go_quiet (fail)
                go_wp2_with fail
                go_roundw
                case rel => exact ⟨y + 1, m + nq, by omega, by go_num, rfl⟩
                case measure => simp [intOf]; omega
            · obtain rfl : y = q := by omega
              go_wp2_with fail
              go_ret
              exact ⟨rfl, Below.drewN' HB6.out _⟩
end Go.Proofs.Ytjelfenkbngfiaa
