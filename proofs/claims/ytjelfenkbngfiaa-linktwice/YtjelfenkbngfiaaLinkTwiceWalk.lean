/-
  The law LinkTwice of package shunterlaw04, out of what package link comes to. Conditions: that package link comes to it (LinkSpec), and the slice leads to calls.
-/
import Derived.Test.YtjelfenkbngfiaaLinkKept
namespace Go.Proofs.Ytjelfenkbngfiaa
open Go.ChangeShapes Go.WideShapes Go.ChangeAt Go.RowKit
set_option linter.unusedVariables false
variable {L : World → (Nat → Prop) → Nat → Nat → List (List Nat) → Prop}

theorem Lines.take {w : World} {a : Option Addr} {len : Nat} {rs : List RowV} (h : Lines w a len rs) (k : Nat) (hk : k ≤ len) : Lines w a k (rs.take k) := by
  obtain ⟨h1, h2, h3, h4⟩ := h
  refine ⟨by rw [List.length_take]; omega, by omega, ?_, fun r hr => h4 r (List.mem_of_mem_take hr)⟩
  rcases h3 with h3 | ⟨b, off, e, hlt, hc⟩
  · exact .inl (by omega)
  · refine .inr ⟨b, off, e, hlt, fun j hj => ?_⟩
    rw [hc j (by omega)]
    simp only [List.getD_eq_getElem?_getD, List.getElem?_take, hj, if_true]

set_option maxRecDepth 100000 in
set_option maxHeartbeats 4000000 in
theorem linkTwice_any (S : LinkSpec L) (w : World) (a0 : Option Addr) (len0 cap0 : Nat) (os : List OpV) (ho : Ops w a0 len0 os) (i0 : Int) (hi0 : (Lit.int .u8 i0).wf = true) (x0 : Int) (hx0 : (Lit.int .u8 x0).wf = true) :
    Calls Try.prog 9 #[.slice a0 len0 cap0, .int .u8 i0, .int .u8 x0] w fun e w' => e = .returned (.bool true) ∧ Below w.heap.size w w' := by
  have HO : Hid (Ops w a0 len0 os) := ho
  have hl1 := ho.2.1
  have bi := bounds_u8 hi0
  have bx := bounds_u8 hx0
  obtain ⟨iv, rfl⟩ := Int.eq_ofNat_of_zero_le bi.1
  obtain ⟨rm, rfl⟩ := Int.eq_ofNat_of_zero_le bx.1
  have hi8 : iv < 256 := by omega
  have hx8 : rm < 256 := by omega
  clear ho hi0 hx0 bi bx
  obtain ⟨r, hr, hr64⟩ : ∃ r : Nat, (1 + (rm : Int) % 64) = r ∧ 1 ≤ r ∧ r ≤ 64 := ⟨1 + rm % 64, by omega, by omega⟩
  cases hh : tooMuch os with
  | true =>
    have HH : Hid (tooMuch os = true) := hh
    clear hh
    go_enter Try.func9, Try.ntmps9
    go_wp2_with fail
    refine (heavy_is a0 len0 cap0 os _ HO.out true HH.out).mono ?_
    rintro e u1 ⟨rfl, rfl⟩
    go_wp2_with fail
    refine (known_any S _).mono ?_
    rintro e u2 ⟨rfl, b2⟩
    go_wp2_with fail
    go_ret
    exact ⟨rfl, b2⟩
  | false =>
    have HH : Hid (tooMuch os = false) := hh
    have hlen : len0 ≤ 100 ∧ bulk os ≤ 3000 := by
      unfold tooMuch at hh
      have := of_decide_eq_false hh
      rw [HO.out.1] at this
      omega
    have HBk : Hid (bulk os ≤ 3000) := hlen.2
    have hl100 := hlen.1
    clear hh hlen
    by_cases hz0 : len0 = 0
    · subst hz0
      go_enter Try.func9, Try.ntmps9
      go_wp2_with fail
      refine (heavy_is a0 0 cap0 os _ HO.out false HH.out).mono ?_
      rintro e u1 ⟨rfl, rfl⟩
      go_wp2_with fail
      refine (known_any S _).mono ?_
      rintro e u2 ⟨rfl, b2⟩
      go_wp2_with fail
      go_ret
      exact ⟨rfl, b2⟩
    · go_enter Try.func9, Try.ntmps9
      go_wp2_with fail
      refine (heavy_is a0 len0 cap0 os _ HO.out false HH.out).mono ?_
      rintro e u1 ⟨rfl, rfl⟩
      go_wp2_with fail
      refine (known_any S _).mono ?_
      rintro e u2 ⟨rfl, b2⟩
      go_wp2_with fail
      refine (mine_new S r u1 _ hr64 b2).mono ?_
      rintro e u3 ⟨p, rfl, m3⟩
      have HM3 : Hid (Mine L u1 u3 p r []) := m3
      clear m3 b2
      go_wp2_with fail
      go_loopw [9] (fun i wr => ∃ (k : Nat), k ≤ len0 ∧ i = .int .i64 k ∧ Mine L u1 wr p r (sent os k r)) (fun i _ => len0 - (intOf i).toNat)
      case atStart => exact ⟨0, Nat.zero_le _, rfl, HM3.out⟩
      case round =>
        obtain ⟨k, hk, rfl, hm⟩ := hrel
        have HM : Hid (Mine L u1 wr p r (sent os k r)) := hm
        clear hm HM3
        by_cases hkl : k < len0
        · obtain ⟨b, off, rfl, hat⟩ := HO.out.at hkl
          obtain ⟨v, hv⟩ : ∃ v, os.getD k zop = v := ⟨_, rfl⟩
          have hvl : (os.getD k zop).len ≤ 1000000 := by have := len_le_bulk (os := os) (k := k) (by rw [HO.out.1]; exact hkl); have := HBk.out; omega
          have HS : Hid (sent os (k + 1) r = if k < r then sent os k r ++ [v.l] else sent os k r) := by rw [← hv]; exact sent_succ (by rw [HO.out.1]; exact hkl)
          have HT : Hid ((sent os k r).length = min k r) := sent_length (by rw [HO.out.1]; exact hk)
          rw [hv] at hat hvl
          have A4 := hat.below HM.out.below
          obtain ⟨q1, q2, q3, q4, q5, hok⟩ := id A4
          have HK : Hid (v.ok wr) := hok
          obtain ⟨vk, va, vl, vc, vt, vi, vat, vx⟩ := v
          simp only at q1 q2 q3 q4 q5 hvl
          clear hv hat A4 hok
          go_wp2_with fail
          by_cases hf : k < r
          · refine (mine_send S va vl vc vt HM.out (by rw [HT.out]; omega) HK.out.1 HK.out.2.1 hvl).mono ?_
            rintro e u5 ⟨rfl, m5⟩
            have HM5 : Hid (Mine L u1 u5 p r (sent os k r ++ [vt])) := m5
            clear m5 q1 q2 q3 q4 q5
            go_wp2_with fail
            go_roundw
            case rel => exact ⟨k + 1, by omega, by go_num, by rw [HS.out, if_pos hf]; exact HM5.out⟩
            case measure => simp [intOf]; omega
          · refine (mine_full S va vl vc vt HM.out (by rw [HT.out]; omega) HK.out.1 HK.out.2.1 hvl).mono ?_
            rintro e u5 ⟨rfl, m5⟩
            have HM5 : Hid (Mine L u1 u5 p r (sent os k r)) := m5
            clear m5 q1 q2 q3 q4 q5
            go_wp2_with fail
            go_roundw
            case rel => exact ⟨k + 1, by omega, by go_num, by rw [HS.out, if_neg hf]; exact HM5.out⟩
            case measure => simp [intOf]; omega
        · obtain rfl : k = len0 := by omega
          have HT : Hid ((sent os k r).length = min k r) := sent_length (by rw [HO.out.1]; exact hk)
          obtain ⟨ts, hts⟩ : ∃ ts, sent os k r = ts := ⟨_, rfl⟩
          have hm := HM.out
          have hTT := HT.out
          rw [hts] at hm hTT
          obtain ⟨n, hn⟩ : ∃ n, ts.length = n := ⟨_, rfl⟩
          have HN : Hid (ts.length = n) := hn
          rw [hn] at hTT
          have hn0 : 0 < n := by omega
          have hnr : n ≤ r := by omega
          obtain ⟨F, hL, hF, hb⟩ := hm
          have HL : Hid (L wr F p r ts) := hL
          have HF : Hid (∀ k, F k → u1.heap.size ≤ k) := hF
          have HB : Hid (Below u1.heap.size u1 wr) := hb
          clear hts hn HM hL hF hb HT hTT
          go_wp2_with fail
          refine (all_is S HL.out n HN.out).mono ?_
          rintro e u4 ⟨a4, c4, rs4, rfl, t4, hx4, hc4, hd4, m4, b4⟩
          have K4 : Hid (Kept F u4 a4 n rs4) := t4.kept (S.foot HL.out)
          have X4 : Hid (texts rs4 = ts) := hx4
          have HL4 : Hid (L u4 F p r ts) := m4
          have HB4 : Hid (Below u1.heap.size u1 u4) := later HB.out b4
          clear t4 hx4 m4 b4 HL HB
          go_wp2_with fail
          obtain ⟨j, hj, hjn⟩ : ∃ j : Nat, (iv : Int) % n = j ∧ j < n := ⟨iv % n, by omega, Nat.mod_lt _ hn0⟩
          rw [hj]
          clear hj
          by_cases hfull : n = r
          · subst hfull
            refine (S.twice_no j HL4.out (by omega) (.inr (.inr (by rw [HN.out]; omega)))).mono ?_
            rintro e u5 ⟨F5, rfl, m5, g5⟩
            have HL5 : Hid (L u5 F5 p n ts) := m5
            have K5 : Hid (Kept F5 u5 a4 n rs4) := K4.out.step g5
            have HB5 : Hid (Below u1.heap.size u1 u5) := HB4.out.trans (g5.1.below HB4.out.size HF.out)
            clear m5 g5 HL4 K4 HB4 HF
            go_wp2_with fail
            refine (all_is S HL5.out n HN.out).mono ?_
            rintro e u6 ⟨a6, c6, rs6, rfl, t6, hx6, hc6, hd6, m6, b6⟩
            have T6 : Hid (Lines u6 a6 n rs6) := t6.lines
            have X6 : Hid (texts rs6 = ts) := hx6
            have K6 : Hid (Kept F5 u6 a4 n rs4) := K5.out.below b6
            have HB6 : Hid (Below u1.heap.size u1 u6) := later HB5.out b6
            clear t6 hx6 m6 b6 HL5 HB5 K5
            go_wp2_with fail
            refine (same_any _ _ n _ n _ rs4 rs6 _ K6.out.lines T6.out).mono ?_
            rintro e v1 ⟨rfl, m1, rfl⟩
            rw [X4.out, X6.out, decide_eq_true rfl]
            go_wp2_with fail
            go_ret
            exact ⟨rfl, Below.drewN' HB6.out _⟩
          · refine (S.twice_yes j HL4.out (by rw [HN.out]; exact hjn) (by rw [HN.out]; omega)).mono ?_
            rintro e u5 ⟨F5, rfl, m5, g5⟩
            obtain ⟨ts2, hts2⟩ : ∃ ts2, ts ++ [ts.getD j []] = ts2 := ⟨_, rfl⟩
            have HTS : Hid (ts ++ [ts.getD j []] = ts2) := hts2
            rw [hts2] at m5
            have HN2 : Hid (ts2.length = n + 1) := by rw [← hts2, List.length_append, HN.out]; rfl
            have HL5 : Hid (L u5 F5 p r ts2) := m5
            have K5 : Hid (Kept F5 u5 a4 n rs4) := K4.out.step g5
            have HB5 : Hid (Below u1.heap.size u1 u5) := HB4.out.trans (g5.1.below HB4.out.size HF.out)
            clear m5 g5 HL4 K4 HB4 HF hts2
            go_wp2_with fail
            refine (all_is S HL5.out (n + 1) HN2.out).mono ?_
            rintro e u6 ⟨a6, c6, rs6, rfl, t6, hx6, hc6, hd6, m6, b6⟩
            have T6 : Hid (Lines u6 a6 (n + 1) rs6) := t6.lines
            have X6 : Hid (texts rs6 = ts2) := hx6
            have K6 : Hid (Kept F5 u6 a4 n rs4) := K5.out.below b6
            have HB6 : Hid (Below u1.heap.size u1 u6) := later HB5.out b6
            clear t6 hx6 m6 b6 HL5 HB5 K5
            obtain ⟨b1, off1, rfl, hlt1, hcell1, hok1⟩ := T6.out.at (j := n) (by omega)
            obtain ⟨b2, off2, rfl, hlt2, hcell2, hok2⟩ := K6.out.lines.at (j := j) hjn
            have e1 : (rs6.getD n zrow).l = ts.getD j [] := by
              rw [texts_getD X6.out, ← HTS.out, List.getD_eq_getElem?_getD, List.getElem?_append_right (by rw [HN.out]; exact Nat.le_refl _), HN.out, Nat.sub_self]; rfl
            have e2 : (rs4.getD j zrow).l = ts.getD j [] := texts_getD X4.out
            have k1 := fun m : Nat => str_run (cap := (rs6.getD n zrow).cap) (hok1.1.below (drewN_below u6 m))
            have k2 := fun m : Nat => str_run (cap := (rs4.getD j zrow).cap) (hok2.1.below (drewN_below u6 m))
            rw [e1] at k1
            rw [e2] at k2
            have hsame : ∀ m, Calls Try.prog 23 #[.slice (some ⟨b1, off1, none⟩) n c6, .slice (some ⟨b2, off2, none⟩) n c4] (u6.drewN m) fun e w' => e = .returned (.bool true) ∧ ∃ q, w' = (u6.drewN m).drewN q := by
              intro m
              refine (same_any _ _ n _ n _ (rs6.take n) rs4 _ ((T6.out.take n (by omega)).below (drewN_below _ m)) (K6.out.lines.below (drewN_below _ m))).mono ?_
              rintro e v1 ⟨rfl, q, rfl⟩
              refine ⟨?_, q, rfl⟩
              rw [decide_eq_true]
              have : texts (rs6.take n) = (texts rs6).take n := by unfold texts; rw [List.map_take]
              rw [this, X6.out, X4.out, ← HTS.out, List.take_append_of_le_length (by rw [HN.out]; exact Nat.le_refl _), List.take_of_length_le (by rw [HN.out]; exact Nat.le_refl _)]
            obtain ⟨r1, hr1⟩ : ∃ q, rs6.getD n zrow = q := ⟨_, rfl⟩
            obtain ⟨r2, hr2⟩ : ∃ q, rs4.getD j zrow = q := ⟨_, rfl⟩
            rw [hr1] at hcell1 k1
            rw [hr2] at hcell2 k2
            clear hr1 hr2 e1 e2 hok1 hok2
            obtain ⟨ra, rl, rc, rt⟩ := r1
            obtain ⟨sa, sl, sc, st⟩ := r2
            simp only at hcell1 hcell2 k1 k2
            obtain ⟨S1, hS1⟩ : ∃ S, S = strOf (ts.getD j []) := ⟨_, rfl⟩
            simp only [← hS1] at k1 k2
            clear hS1
            have he1 : (S1.toList == S1.toList) = true := beq_self_eq_true _
            have i1 : (0 : Int) ≤ n := by omega
            have i2 : (n : Int) < (n + 1 : Nat) := by omega
            have i3 : (0 : Int) ≤ j := by omega
            have i4 : (j : Int) < n := by omega
            have i5 : (n : Int) ≤ c6 := by omega
            have hne : ((n : Int) == (r : Int)) = false := by simp; omega
            go_wp2_with fail
            go_quiet ((go_at_call 23; exact Calls.quiet_of (hsame _)))
            go_wp2_with fail
            go_ret
            exact ⟨rfl, Below.drewN' HB6.out _⟩
end Go.Proofs.Ytjelfenkbngfiaa
