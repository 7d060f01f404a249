/-
  The law LinkBends of package shunterlaw04, out of what package link comes to. Conditions: that package link comes to it (LinkSpec), and the slice leads to calls.
-/
import Derived.Test.YtjelfenkbngfiaaLinkKept
namespace Go.Proofs.Ytjelfenkbngfiaa
open Go.ChangeShapes Go.WideShapes Go.ChangeAt Go.RowKit
set_option linter.unusedVariables false
variable {L : World → (Nat → Prop) → Nat → Nat → List (List Nat) → Prop}

set_option maxRecDepth 100000 in
set_option maxHeartbeats 4000000 in
theorem linkBends_any (S : LinkSpec L) (w : World) (a0 : Option Addr) (len0 cap0 : Nat) (os : List OpV) (ho : Ops w a0 len0 os) (i0 : Int) (hi0 : (Lit.int .u8 i0).wf = true) (at0 : Int) (hat0 : (Lit.int .u8 at0).wf = true) (x0 : Int) (hx0 : (Lit.int .u8 x0).wf = true) :
    Calls Try.prog 8 #[.slice a0 len0 cap0, .int .u8 i0, .int .u8 at0, .int .u8 x0] w fun e w' => e = .returned (.bool true) ∧ Below w.heap.size w w' := by
  have HO : Hid (Ops w a0 len0 os) := ho
  have hl1 := ho.2.1
  have bi := bounds_u8 hi0
  have ba := bounds_u8 hat0
  have bx := bounds_u8 hx0
  obtain ⟨iv, rfl⟩ := Int.eq_ofNat_of_zero_le bi.1
  obtain ⟨t, rfl⟩ := Int.eq_ofNat_of_zero_le ba.1
  obtain ⟨x, rfl⟩ := Int.eq_ofNat_of_zero_le bx.1
  have hi8 : iv < 256 := by omega
  have ht8 : t < 256 := by omega
  have hx8 : x < 256 := by omega
  clear ho hi0 hat0 hx0 bi ba bx
  cases hh : tooMuch os with
  | true =>
    have HH : Hid (tooMuch os = true) := hh
    clear hh
    go_enter Try.func8, Try.ntmps8
    go_wp2_with fail
    refine (heavy_is a0 len0 cap0 os _ HO.out true HH.out).mono ?_
    rintro e u1 ⟨rfl, rfl⟩
    go_wp2_with fail
    refine (known_any S _).mono ?_
    rintro e u2 ⟨rfl, b2⟩
    go_wp2_with fail
    go_ret
    exact ⟨rfl, b2⟩
  | false =>
    have HH : Hid (tooMuch os = false) := hh
    have hlen : len0 ≤ 100 ∧ bulk os ≤ 3000 := by
      unfold tooMuch at hh
      have := of_decide_eq_false hh
      rw [HO.out.1] at this
      omega
    have HBk : Hid (bulk os ≤ 3000) := hlen.2
    have hl100 := hlen.1
    clear hh hlen
    by_cases hz0 : len0 = 0
    · subst hz0
      go_enter Try.func8, Try.ntmps8
      go_wp2_with fail
      refine (heavy_is a0 0 cap0 os _ HO.out false HH.out).mono ?_
      rintro e u1 ⟨rfl, rfl⟩
      go_wp2_with fail
      refine (known_any S _).mono ?_
      rintro e u2 ⟨rfl, b2⟩
      go_wp2_with fail
      go_ret
      exact ⟨rfl, b2⟩
    · go_enter Try.func8, Try.ntmps8
      go_wp2_with fail
      refine (heavy_is a0 len0 cap0 os _ HO.out false HH.out).mono ?_
      rintro e u1 ⟨rfl, rfl⟩
      go_wp2_with fail
      refine (known_any S _).mono ?_
      rintro e u2 ⟨rfl, b2⟩
      go_wp2_with fail
      refine (mine_new S 64 u1 _ (by omega) b2).mono ?_
      rintro e u3 ⟨p, rfl, m3⟩
      have HM3 : Hid (Mine L u1 u3 p 64 []) := m3
      clear m3 b2
      go_wp2_with fail
      go_loopw [10] (fun i wr => ∃ (k : Nat), k ≤ len0 ∧ i = .int .i64 k ∧ Mine L u1 wr p 64 (sent os k 64)) (fun i _ => len0 - (intOf i).toNat)
      case atStart => exact ⟨0, Nat.zero_le _, rfl, HM3.out⟩
      case round =>
        obtain ⟨k, hk, rfl, hm⟩ := hrel
        have HM : Hid (Mine L u1 wr p 64 (sent os k 64)) := hm
        clear hm HM3
        by_cases hkl : k < len0
        · obtain ⟨b, off, rfl, hat⟩ := HO.out.at hkl
          obtain ⟨v, hv⟩ : ∃ v, os.getD k zop = v := ⟨_, rfl⟩
          have hvl : (os.getD k zop).len ≤ 1000000 := by have := len_le_bulk (os := os) (k := k) (by rw [HO.out.1]; exact hkl); have := HBk.out; omega
          have HS : Hid (sent os (k + 1) 64 = if k < 64 then sent os k 64 ++ [v.l] else sent os k 64) := by rw [← hv]; exact sent_succ (by rw [HO.out.1]; exact hkl)
          have HT : Hid ((sent os k 64).length = min k 64) := sent_length (by rw [HO.out.1]; exact hk)
          rw [hv] at hat hvl
          have A4 := hat.below HM.out.below
          obtain ⟨q1, q2, q3, q4, q5, hok⟩ := id A4
          have HK : Hid (v.ok wr) := hok
          obtain ⟨vk, va, vl, vc, vt, vi, vat, vx⟩ := v
          simp only at q1 q2 q3 q4 q5 hvl
          clear hv hat A4 hok
          go_wp2_with fail
          by_cases hf : k < 64
          · refine (mine_send S va vl vc vt HM.out (by rw [HT.out]; omega) HK.out.1 HK.out.2.1 hvl).mono ?_
            rintro e u5 ⟨rfl, m5⟩
            have HM5 : Hid (Mine L u1 u5 p 64 (sent os k 64 ++ [vt])) := m5
            clear m5 q1 q2 q3 q4 q5
            go_wp2_with fail
            go_roundw
            case rel => exact ⟨k + 1, by omega, by go_num, by rw [HS.out, if_pos hf]; exact HM5.out⟩
            case measure => simp [intOf]; omega
          · refine (mine_full S va vl vc vt HM.out (by rw [HT.out]; omega) HK.out.1 HK.out.2.1 hvl).mono ?_
            rintro e u5 ⟨rfl, m5⟩
            have HM5 : Hid (Mine L u1 u5 p 64 (sent os k 64)) := m5
            clear m5 q1 q2 q3 q4 q5
            go_wp2_with fail
            go_roundw
            case rel => exact ⟨k + 1, by omega, by go_num, by rw [HS.out, if_neg hf]; exact HM5.out⟩
            case measure => simp [intOf]; omega
        · obtain rfl : k = len0 := by omega
          have HT : Hid ((sent os k 64).length = min k 64) := sent_length (by rw [HO.out.1]; exact hk)
          obtain ⟨ts, hts⟩ : ∃ ts, sent os k 64 = ts := ⟨_, rfl⟩
          have hm := HM.out
          have hTT := HT.out
          rw [hts] at hm hTT
          obtain ⟨n, hn⟩ : ∃ n, ts.length = n := ⟨_, rfl⟩
          have HN : Hid (ts.length = n) := hn
          rw [hn] at hTT
          have hn0 : 0 < n := by omega
          have hn64 : n ≤ 64 := by omega
          obtain ⟨F, hL, hF, hb⟩ := hm
          have HL : Hid (L wr F p 64 ts) := hL
          have HF : Hid (∀ k, F k → u1.heap.size ≤ k) := hF
          have HB : Hid (Below u1.heap.size u1 wr) := hb
          clear hts hn HM hL hF hb HT hTT
          go_wp2_with fail
          refine (all_is S HL.out n HN.out).mono ?_
          rintro e u4 ⟨a4, c4, rs4, rfl, t4, hx4, hc4, hd4, m4, b4⟩
          have K4 : Hid (Kept F u4 a4 n rs4) := t4.kept (S.foot HL.out)
          have X4 : Hid (texts rs4 = ts) := hx4
          have HL4 : Hid (L u4 F p 64 ts) := m4
          have HB4 : Hid (Below u1.heap.size u1 u4) := later HB.out b4
          clear t4 hx4 m4 b4 HL HB
          go_wp2_with fail
          obtain ⟨j, hj, hjn⟩ : ∃ j : Nat, (iv : Int) % n = j ∧ j < n := ⟨iv % n, by omega, Nat.mod_lt _ hn0⟩
          rw [hj]
          by_cases hc : x ≠ 0 ∧ ts.getD j [] ≠ []
          · obtain ⟨hx0, hne⟩ := hc
            refine (S.bend_yes j t x HL4.out (by rw [HN.out]; exact hjn) hne hx0 hx8 (by omega)).mono ?_
            rintro e u5 ⟨F5, rfl, m5, g5⟩
            obtain ⟨ts2, hts2⟩ : ∃ ts2, ts.set j (bentRow (ts.getD j []) t x) = ts2 := ⟨_, rfl⟩
            have HTS : Hid (ts.set j (bentRow (ts.getD j []) t x) = ts2) := hts2
            have m5' : L u5 F5 p 64 ts2 := by rw [← hts2]; exact m5
            have HN2 : Hid (ts2.length = n) := by rw [← hts2, List.length_set]; exact HN.out
            have HL5 : Hid (L u5 F5 p 64 ts2) := m5'
            have K5 : Hid (Kept F5 u5 a4 n rs4) := K4.out.step g5
            have HF5 : Hid (∀ k, F5 k → u1.heap.size ≤ k) := fun k hk => (g5.2 k hk).elim (HF.out k) (fun e => Nat.le_trans HB4.out.size e)
            have HB5 : Hid (Below u1.heap.size u1 u5) := HB4.out.trans (g5.1.below HB4.out.size HF.out)
            clear m5 m5' hts2 g5 HL4 K4 HB4 HF
            go_wp2_with fail
            refine (all_is S HL5.out n HN2.out).mono ?_
            rintro e u6 ⟨a6, c6, rs6, rfl, t6, hx6, hc6, hd6, m6, b6⟩
            have K6 : Hid (Kept F5 u6 a6 n rs6) := t6.kept (S.foot HL5.out)
            have X6 : Hid (texts rs6 = ts2) := hx6
            have K5' : Hid (Kept F5 u6 a4 n rs4) := K5.out.below b6
            have HL6 : Hid (L u6 F5 p 64 ts2) := m6
            have HB6 : Hid (Below u1.heap.size u1 u6) := later HB5.out b6
            clear t6 hx6 m6 b6 HL5 HB5 K5
            go_wp2_with fail
            refine (S.bend_yes j t x HL6.out (by rw [HN2.out]; exact hjn) (by rw [← HTS.out, List.getD_eq_getElem?_getD, List.getElem?_set_self (by rw [HN.out]; exact hjn)]; intro e; apply hne; have := bentRow_length (ts.getD j []) t x; rw [Option.getD_some] at e; rw [e] at this; exact List.length_eq_zero_iff.1 this.symm) hx0 hx8 (by omega)).mono ?_
            rintro e u7 ⟨F7, rfl, m7, g7⟩
            have m7' : L u7 F7 p 64 ts := by
              have e := set_bent_twice ts j t x (by rw [HN.out]; exact hjn) hne
              rw [HTS.out] at e
              rw [← e]
              exact m7
            have HL7 : Hid (L u7 F7 p 64 ts) := m7'
            have K7a : Hid (Kept F7 u7 a4 n rs4) := K5'.out.step g7
            have K7b : Hid (Kept F7 u7 a6 n rs6) := K6.out.step g7
            have HF7 : Hid (∀ k, F7 k → u1.heap.size ≤ k) := fun k hk => (g7.2 k hk).elim (HF5.out k) (fun e => Nat.le_trans HB6.out.size e)
            have HB7 : Hid (Below u1.heap.size u1 u7) := HB6.out.trans (g7.1.below HB6.out.size HF5.out)
            clear m7 m7' g7 HL6 K6 K5' HB6 HF5
            obtain ⟨b, off, rfl, hlt, hcell, hok⟩ := K7a.out.lines.at (j := j) hjn
            have hrl : (rs4.getD j zrow).len = (ts.getD j []).length := by rw [← texts_getD X4.out]; exact hok.1.1.symm
            obtain ⟨ra, hra⟩ : ∃ ra, (rs4.getD j zrow).a = ra := ⟨_, rfl⟩
            obtain ⟨rc, hrc⟩ : ∃ rc, (rs4.getD j zrow).cap = rc := ⟨_, rfl⟩
            obtain ⟨rl, hrl2⟩ : ∃ rl, (rs4.getD j zrow).len = rl := ⟨_, rfl⟩
            rw [hra, hrc, hrl2] at hcell
            rw [hrl2] at hrl
            have HR : Hid (rl = (ts.getD j []).length) := hrl
            clear hra hrc hrl2 hok hrl
            have hrp : (0 : Int) < rl := by rw [HR.out]; have := List.length_pos_iff.2 hne; omega
            have hxx : ((x : Int) == 0) = false := by simpa using hx0
            have hxy : (((x : Int) != 0)) = true := by simpa using hx0
            go_wp2_with fail
            refine (all_is S HL7.out n HN.out).mono ?_
            rintro e u8 ⟨a8, c8, rs8, rfl, t8, hx8', hc8, hd8, m8, b8⟩
            have X8 : Hid (texts rs8 = ts) := hx8'
            have T8 : Hid (Lines u8 a8 n rs8) := t8.lines
            have K8a : Hid (Kept F7 u8 (some ⟨b, off, none⟩) n rs4) := K7a.out.below b8
            have K8b : Hid (Kept F7 u8 a6 n rs6) := K7b.out.below b8
            have HB8 : Hid (Below u1.heap.size u1 u8) := later HB7.out b8
            clear t8 hx8' m8 b8 hcell HB7 K7a K7b HL7
            go_wp2_with fail
            refine (same_any _ _ n _ n _ rs4 rs8 u8 K8a.out.lines T8.out).mono ?_
            rintro e u9 ⟨rfl, n9, rfl⟩
            rw [X4.out, X8.out, decide_eq_true rfl]
            go_wp2_with fail
            refine (same_any _ _ n _ n _ rs4 rs6 _ (K8a.out.lines.below (drewN_below _ n9)) (K8b.out.lines.below (drewN_below _ n9))).mono ?_
            rintro e v1 ⟨rfl, m1, rfl⟩
            rw [X4.out, X6.out, decide_eq_false (by rw [← HTS.out]; exact set_bent_ne ts j t x (by rw [HN.out]; exact hjn) hne hx0)]
            go_wp2_with fail
            go_ret
            exact ⟨rfl, Below.drewN' HB8.out _⟩
          · have HC : Hid (x = 0 ∨ ts.getD j [] = []) := by
              by_cases h : x = 0
              · exact .inl h
              · exact .inr (Classical.byContradiction fun h2 => hc ⟨h, h2⟩)
            clear hc
            refine (S.bend_no j t x HL4.out (by omega) (by omega) hx8 (by rcases HC.out with h | h; exact .inr (.inr (.inr (.inl h))); exact .inr (.inr (.inr (.inr ⟨j, rfl, by rw [HN.out]; exact hjn, h⟩))))).mono ?_
            rintro e u5 ⟨F5, rfl, m5, g5⟩
            have HL5 : Hid (L u5 F5 p 64 ts) := m5
            have HN2 := HN
            have K5 : Hid (Kept F5 u5 a4 n rs4) := K4.out.step g5
            have HF5 : Hid (∀ k, F5 k → u1.heap.size ≤ k) := fun k hk => (g5.2 k hk).elim (HF.out k) (fun e => Nat.le_trans HB4.out.size e)
            have HB5 : Hid (Below u1.heap.size u1 u5) := HB4.out.trans (g5.1.below HB4.out.size HF.out)
            clear m5 g5 HL4 K4 HB4 HF
            go_wp2_with fail
            refine (all_is S HL5.out n HN2.out).mono ?_
            rintro e u6 ⟨a6, c6, rs6, rfl, t6, hx6, hc6, hd6, m6, b6⟩
            have K6 : Hid (Kept F5 u6 a6 n rs6) := t6.kept (S.foot HL5.out)
            have X6 : Hid (texts rs6 = ts) := hx6
            have K5' : Hid (Kept F5 u6 a4 n rs4) := K5.out.below b6
            have HL6 : Hid (L u6 F5 p 64 ts) := m6
            have HB6 : Hid (Below u1.heap.size u1 u6) := later HB5.out b6
            clear t6 hx6 m6 b6 HL5 HB5 K5
            go_wp2_with fail
            refine (S.bend_no j t x HL6.out (by omega) (by omega) hx8 (by rcases HC.out with h | h; exact .inr (.inr (.inr (.inl h))); exact .inr (.inr (.inr (.inr ⟨j, rfl, by rw [HN.out]; exact hjn, h⟩))))).mono ?_
            rintro e u7 ⟨F7, rfl, m7, g7⟩
            have m7' : L u7 F7 p 64 ts := m7
            have HL7 : Hid (L u7 F7 p 64 ts) := m7'
            have K7a : Hid (Kept F7 u7 a4 n rs4) := K5'.out.step g7
            have K7b : Hid (Kept F7 u7 a6 n rs6) := K6.out.step g7
            have HF7 : Hid (∀ k, F7 k → u1.heap.size ≤ k) := fun k hk => (g7.2 k hk).elim (HF5.out k) (fun e => Nat.le_trans HB6.out.size e)
            have HB7 : Hid (Below u1.heap.size u1 u7) := HB6.out.trans (g7.1.below HB6.out.size HF5.out)
            clear m7 m7' g7 HL6 K6 K5' HB6 HF5
            obtain ⟨b, off, rfl, hlt, hcell, hok⟩ := K7a.out.lines.at (j := j) hjn
            have hrl : (rs4.getD j zrow).len = (ts.getD j []).length := by rw [← texts_getD X4.out]; exact hok.1.1.symm
            obtain ⟨ra, hra⟩ : ∃ ra, (rs4.getD j zrow).a = ra := ⟨_, rfl⟩
            obtain ⟨rc, hrc⟩ : ∃ rc, (rs4.getD j zrow).cap = rc := ⟨_, rfl⟩
            obtain ⟨rl, hrl2⟩ : ∃ rl, (rs4.getD j zrow).len = rl := ⟨_, rfl⟩
            rw [hra, hrc, hrl2] at hcell
            rw [hrl2] at hrl
            have HR : Hid (rl = (ts.getD j []).length) := hrl
            clear hra hrc hrl2 hok hrl
            rcases HC.out with h0 | h0
            · subst h0
              go_wp2_with fail
              refine (all_is S HL7.out n HN.out).mono ?_
              rintro e u8 ⟨a8, c8, rs8, rfl, t8, hx8', hc8, hd8, m8, b8⟩
              have X8 : Hid (texts rs8 = ts) := hx8'
              have T8 : Hid (Lines u8 a8 n rs8) := t8.lines
              have K8a : Hid (Kept F7 u8 (some ⟨b, off, none⟩) n rs4) := K7a.out.below b8
              have K8b : Hid (Kept F7 u8 a6 n rs6) := K7b.out.below b8
              have HB8 : Hid (Below u1.heap.size u1 u8) := later HB7.out b8
              clear t8 hx8' m8 b8 hcell HB7 K7a K7b HL7
              go_wp2_with fail
              refine (same_any _ _ n _ n _ rs4 rs8 u8 K8a.out.lines T8.out).mono ?_
              rintro e u9 ⟨rfl, n9, rfl⟩
              rw [X4.out, X8.out, decide_eq_true rfl]
              go_wp2_with fail
              refine (same_any _ _ n _ n _ rs4 rs6 _ (K8a.out.lines.below (drewN_below _ n9)) (K8b.out.lines.below (drewN_below _ n9))).mono ?_
              rintro e v1 ⟨rfl, m1, rfl⟩
              rw [X4.out, X6.out, decide_eq_true rfl]
              go_wp2_with fail
              go_ret
              exact ⟨rfl, Below.drewN' HB8.out _⟩
            · have hrz : rl = 0 := by rw [HR.out, h0]; rfl
              subst hrz
              by_cases hx00 : x = 0
              · subst hx00
                go_wp2_with fail
                refine (all_is S HL7.out n HN.out).mono ?_
                rintro e u8 ⟨a8, c8, rs8, rfl, t8, hx8', hc8, hd8, m8, b8⟩
                have X8 : Hid (texts rs8 = ts) := hx8'
                have T8 : Hid (Lines u8 a8 n rs8) := t8.lines
                have K8a : Hid (Kept F7 u8 (some ⟨b, off, none⟩) n rs4) := K7a.out.below b8
                have K8b : Hid (Kept F7 u8 a6 n rs6) := K7b.out.below b8
                have HB8 : Hid (Below u1.heap.size u1 u8) := later HB7.out b8
                clear t8 hx8' m8 b8 hcell HB7 K7a K7b HL7
                go_wp2_with fail
                refine (same_any _ _ n _ n _ rs4 rs8 u8 K8a.out.lines T8.out).mono ?_
                rintro e u9 ⟨rfl, n9, rfl⟩
                rw [X4.out, X8.out, decide_eq_true rfl]
                go_wp2_with fail
                refine (same_any _ _ n _ n _ rs4 rs6 _ (K8a.out.lines.below (drewN_below _ n9)) (K8b.out.lines.below (drewN_below _ n9))).mono ?_
                rintro e v1 ⟨rfl, m1, rfl⟩
                rw [X4.out, X6.out, decide_eq_true rfl]
                go_wp2_with fail
                go_ret
                exact ⟨rfl, Below.drewN' HB8.out _⟩
              · have hxx : ((x : Int) == 0) = false := by simpa using hx00
                have hxy : (((x : Int) != 0)) = true := by simpa using hx00
                go_wp2_with fail
                refine (all_is S HL7.out n HN.out).mono ?_
                rintro e u8 ⟨a8, c8, rs8, rfl, t8, hx8', hc8, hd8, m8, b8⟩
                have X8 : Hid (texts rs8 = ts) := hx8'
                have T8 : Hid (Lines u8 a8 n rs8) := t8.lines
                have K8a : Hid (Kept F7 u8 (some ⟨b, off, none⟩) n rs4) := K7a.out.below b8
                have K8b : Hid (Kept F7 u8 a6 n rs6) := K7b.out.below b8
                have HB8 : Hid (Below u1.heap.size u1 u8) := later HB7.out b8
                clear t8 hx8' m8 b8 hcell HB7 K7a K7b HL7
                go_wp2_with fail
                refine (same_any _ _ n _ n _ rs4 rs8 u8 K8a.out.lines T8.out).mono ?_
                rintro e u9 ⟨rfl, n9, rfl⟩
                rw [X4.out, X8.out, decide_eq_true rfl]
                go_wp2_with fail
                refine (same_any _ _ n _ n _ rs4 rs6 _ (K8a.out.lines.below (drewN_below _ n9)) (K8b.out.lines.below (drewN_below _ n9))).mono ?_
                rintro e v1 ⟨rfl, m1, rfl⟩
                rw [X4.out, X6.out, decide_eq_true rfl]
                go_wp2_with fail
                go_ret
                exact ⟨rfl, Below.drewN' HB8.out _⟩
end Go.Proofs.Ytjelfenkbngfiaa
