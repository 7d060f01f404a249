/-
  The law LinkKeeps of package shunterlaw04, out of what package link comes to. Conditions: that package link comes to it (LinkSpec), and the slice leads to calls.
-/
import Derived.Test.YtjelfenkbngfiaaLinkKept
namespace Go.Proofs.Ytjelfenkbngfiaa
open Go.ChangeShapes Go.WideShapes Go.ChangeAt Go.RowKit
set_option linter.unusedVariables false
variable {L : World → (Nat → Prop) → Nat → Nat → List (List Nat) → Prop}

/-- rows that were told, while they are written over: the header as it was, each byte can be written -/
structure Wiped (w0 v : World) (a : Option Addr) (n : Nat) (rs : List RowV) : Prop where
  below : Below w0.heap.size w0 v
  head : ∀ j, j < n → ∃ b off, a = some ⟨b, off, none⟩ ∧ v.cell? ⟨b, off + j, none⟩ = some (.slice (rs.getD j zrow).a (rs.getD j zrow).len (rs.getD j zrow).cap)
  rows : ∀ j, j < n → ∀ i, i < (rs.getD j zrow).len → ∃ b off, (rs.getD j zrow).a = some ⟨b, off, none⟩ ∧ w0.heap.size ≤ b ∧ (∀ ah, a = some ah → b ≠ ah.block) ∧ v.frozen? ⟨b, off + i, none⟩ = false ∧ ∃ c, v.cell? ⟨b, off + i, none⟩ = some c
theorem mem_getD {rs : List RowV} {j : Nat} (h : j < rs.length) : rs.getD j zrow ∈ rs := by
  rw [List.getD_eq_getElem?_getD, List.getElem?_eq_getElem h]; exact List.getElem_mem _
theorem Told.wiped {w0 v : World} {a : Option Addr} {n : Nat} {rs : List RowV} (h : Told w0 v a n rs) (hb : Below w0.heap.size w0 v) : Wiped w0 v a n rs := by
  refine ⟨hb, fun j hj => ?_, fun j hj i hi => ?_⟩
  · obtain ⟨b, off, e, _, hc, _⟩ := h.lines.at hj
    exact ⟨b, off, e, hc⟩
  · obtain ⟨_, _, _, _, _, hok⟩ := h.lines.at hj
    obtain ⟨b, off, e, hc⟩ := hok.at (by omega)
    have hr := h.rows _ (mem_getD (by rw [h.lines.1]; exact hj)) _ e
    exact ⟨b, off, e, hr.1, hr.2.2, hr.2.1 _, _, hc i hi⟩
theorem Wiped.set {w0 v : World} {a : Option Addr} {n : Nat} {rs : List RowV} (h : Wiped w0 v a n rs) {b o : Nat} {c x : Value} (hb : w0.heap.size ≤ b) (hne : ∀ ah, a = some ah → b ≠ ah.block) (hc : v.cell? ⟨b, o, none⟩ = some c) : Wiped w0 (v.setCell ⟨b, o, none⟩ x) a n rs := by
  refine ⟨h.below.setCell hb _, fun j hj => ?_, fun j hj i hi => ?_⟩
  · obtain ⟨b', off, e, hq⟩ := h.head j hj
    refine ⟨b', off, e, ?_⟩
    rw [World.cell?_setCell_other]
    · exact hq
    · intro e2
      cases e2
      exact hne _ e rfl
  · obtain ⟨b', off, e, h1, h2, h3, c', hq⟩ := h.rows j hj i hi
    refine ⟨b', off, e, h1, h2, by simpa using h3, ?_⟩
    by_cases he : (⟨b', off + i, none⟩ : Addr) = ⟨b, o, none⟩
    · rw [he]
      exact ⟨_, World.cell?_setCell_same _ _ _ hc⟩
    · exact ⟨c', by rw [World.cell?_setCell_other]; exact hq; first | exact he | exact fun q => he q.symm⟩
theorem sent_getD {os : List OpV} {k y room : Nat} (h : y < min k room) (hk : k ≤ os.length) : (sent os k room).getD y [] = (os.getD y zop).l := by
  unfold sent
  rw [List.getD_eq_getElem?_getD, List.getD_eq_getElem?_getD, List.getElem?_map, List.getElem?_take, if_pos h, List.getElem?_eq_getElem (by omega)]
  rfl

set_option maxRecDepth 100000 in
set_option maxHeartbeats 4000000 in
theorem linkKeeps_any (S : LinkSpec L) (w : World) (a0 : Option Addr) (len0 cap0 : Nat) (os : List OpV) (ho : Ops w a0 len0 os) (x0 : Int) (hx0 : (Lit.int .u8 x0).wf = true) :
    Calls Try.prog 7 #[.slice a0 len0 cap0, .int .u8 x0] w fun e w' => e = .returned (.bool true) ∧ Below w.heap.size w w' := by
  have HO : Hid (Ops w a0 len0 os) := ho
  have hl1 := ho.2.1
  have bx := bounds_u8 hx0
  obtain ⟨rm, rfl⟩ := Int.eq_ofNat_of_zero_le bx.1
  have hx8 : rm < 256 := by omega
  clear ho hx0 bx
  obtain ⟨r, hr, hr64⟩ : ∃ r : Nat, (1 + (rm : Int) % 64) = r ∧ 1 ≤ r ∧ r ≤ 64 := ⟨1 + rm % 64, by omega, by omega⟩
  cases hh : tooMuch os with
  | true =>
    have HH : Hid (tooMuch os = true) := hh
    clear hh
    go_enter Try.func7, Try.ntmps7
    go_wp2_with fail
    refine (heavy_is a0 len0 cap0 os _ HO.out true HH.out).mono ?_
    rintro e u1 ⟨rfl, rfl⟩
    go_wp2_with fail
    refine (known_any S _).mono ?_
    rintro e u2 ⟨rfl, b2⟩
    go_wp2_with fail
    go_ret
    exact ⟨rfl, b2⟩
  | false =>
    have HH : Hid (tooMuch os = false) := hh
    have hlen : len0 ≤ 100 ∧ bulk os ≤ 3000 := by
      unfold tooMuch at hh
      have := of_decide_eq_false hh
      rw [HO.out.1] at this
      omega
    have HBk : Hid (bulk os ≤ 3000) := hlen.2
    have hl100 := hlen.1
    clear hh hlen
    go_enter Try.func7, Try.ntmps7
    go_wp2_with fail
    refine (heavy_is a0 len0 cap0 os _ HO.out false HH.out).mono ?_
    rintro e u1 ⟨rfl, rfl⟩
    go_wp2_with fail
    refine (known_any S _).mono ?_
    rintro e u2 ⟨rfl, b2⟩
    go_wp2_with fail
    refine (mine_new S r u1 _ hr64 b2).mono ?_
    rintro e u3 ⟨p, rfl, m3⟩
    have HM3 : Hid (Mine L u1 u3 p r []) := m3
    clear m3 b2
    go_wp2_with fail
    go_loopw [7] (fun i wr => ∃ (k : Nat), k ≤ len0 ∧ i = .int .i64 k ∧ Mine L u1 wr p r (sent os k r)) (fun i _ => len0 - (intOf i).toNat)
    case atStart => exact ⟨0, Nat.zero_le _, rfl, HM3.out⟩
    case round =>
      obtain ⟨k, hk, rfl, hm⟩ := hrel
      have HM : Hid (Mine L u1 wr p r (sent os k r)) := hm
      clear hm HM3
      by_cases hkl : k < len0
      · obtain ⟨b, off, rfl, hat⟩ := HO.out.at hkl
        obtain ⟨v, hv⟩ : ∃ v, os.getD k zop = v := ⟨_, rfl⟩
        have hvl : (os.getD k zop).len ≤ 1000000 := by have := len_le_bulk (os := os) (k := k) (by rw [HO.out.1]; exact hkl); have := HBk.out; omega
        have HS : Hid (sent os (k + 1) r = if k < r then sent os k r ++ [v.l] else sent os k r) := by rw [← hv]; exact sent_succ (by rw [HO.out.1]; exact hkl)
        have HT : Hid ((sent os k r).length = min k r) := sent_length (by rw [HO.out.1]; exact hk)
        rw [hv] at hat hvl
        have A4 := hat.below HM.out.below
        obtain ⟨q1, q2, q3, q4, q5, hok⟩ := id A4
        have HK : Hid (v.ok wr) := hok
        obtain ⟨vk, va, vl, vc, vt, vi, vat, vx⟩ := v
        simp only at q1 q2 q3 q4 q5 hvl
        clear hv hat A4 hok
        go_wp2_with fail
        by_cases hf : k < r
        · have hfi : (k : Int) < r := by omega
          refine (mine_send S va vl vc vt HM.out (by rw [HT.out]; omega) HK.out.1 HK.out.2.1 hvl).mono ?_
          rintro e u5 ⟨rfl, m5⟩
          have HM5 : Hid (Mine L u1 u5 p r (sent os k r ++ [vt])) := m5
          clear m5 q1 q2 q3 q4 q5
          go_wp2_with fail
          go_roundw
          case rel => exact ⟨k + 1, by omega, by go_num, by rw [HS.out, if_pos hf]; exact HM5.out⟩
          case measure => simp [intOf]; omega
        · have hfi : decide ((k : Int) < r) = false := by simpa using hf
          refine (mine_full S va vl vc vt HM.out (by rw [HT.out]; omega) HK.out.1 HK.out.2.1 hvl).mono ?_
          rintro e u5 ⟨rfl, m5⟩
          have HM5 : Hid (Mine L u1 u5 p r (sent os k r)) := m5
          clear m5 q1 q2 q3 q4 q5
          go_wp2_with fail
          go_roundw
          case rel => exact ⟨k + 1, by omega, by go_num, by rw [HS.out, if_neg hf]; exact HM5.out⟩
          case measure => simp [intOf]; omega
      · obtain rfl : k = len0 := by omega
        have HT : Hid ((sent os k r).length = min k r) := sent_length (by rw [HO.out.1]; exact hk)
        have HG : Hid (∀ y, y < min k r → (sent os k r).getD y [] = (os.getD y zop).l) := fun y hy => sent_getD hy (by rw [HO.out.1]; exact hk)
        obtain ⟨ts, hts⟩ : ∃ ts, sent os k r = ts := ⟨_, rfl⟩
        have hm := HM.out
        have hTT := HT.out
        have hGG := HG.out
        rw [hts] at hm hTT hGG
        obtain ⟨n, hn⟩ : ∃ n, ts.length = n := ⟨_, rfl⟩
        have HN : Hid (ts.length = n) := hn
        rw [hn] at hTT
        have HGT : Hid (∀ y, y < n → ts.getD y [] = (os.getD y zop).l) := fun y hy => hGG y (by omega)
        have hnk : n ≤ k := by omega
        have hnr : n ≤ r := by omega
        have HMin : Hid (n = min k r) := hTT
        obtain ⟨F, hL, hF, hb⟩ := hm
        have HL : Hid (L wr F p r ts) := hL
        have HF : Hid (∀ k, F k → u1.heap.size ≤ k) := hF
        have HB : Hid (Below u1.heap.size u1 wr) := hb
        clear hts hn HM hL hF hb HT hTT HG hGG
        go_wp2_with fail
        refine (all_is S HL.out n HN.out).mono ?_
        rintro e u4 ⟨a4, c4, rs4, rfl, t4, hx4, hc4, hd4, m4, b4⟩
        have W4 : Hid (Wiped wr u4 a4 n rs4) := t4.wiped b4
        have HM0 : Hid (∀ v, Below wr.heap.size wr v → Mine L u1 v p r ts) := fun v hv => ⟨F, S.below HL.out hv, HF.out, later HB.out hv⟩
        have HLn : Hid (∀ j, j < n → (rs4.getD j zrow).len ≤ 9223372036854775807) := fun j hj => by
          obtain ⟨_, _, _, _, _, hok⟩ := t4.lines.at hj
          have := hok.1.2.1
          unfold maxLen at this
          omega
        clear t4 hx4 m4 b4 HL HB HF
        obtain ⟨w3, W4, HM0⟩ : ∃ w3, Hid (Wiped w3 u4 a4 n rs4) ∧ Hid (∀ v, Below w3.heap.size w3 v → Mine L u1 v p r ts) := ⟨wr, W4, HM0⟩
        go_wp2_with fail
        go_loopw [9, 10] (fun i _ v => ∃ y : Nat, y ≤ n ∧ i = .int .i64 y ∧ Wiped w3 v a4 n rs4) (fun i _ _ => n - (intOf i).toNat)
        case atStart => exact ⟨0, Nat.zero_le _, rfl, W4.out⟩
        case round =>
          obtain ⟨y, hy, rfl, hw⟩ := hrel
          clear W4
          by_cases hyn : y < n
          · obtain ⟨rl, hrl⟩ : ∃ q, (rs4.getD y zrow).len = q := ⟨_, rfl⟩
            have hrlb := HLn.out y hyn
            rw [hrl] at hrlb
            have HRL : Hid ((rs4.getD y zrow).len = rl) := hrl
            have HW : Hid (Wiped w3 wr a4 n rs4) := hw
            have hyi : (y : Int) < n := by omega
            have hy0 : (0 : Int) ≤ y := by omega
            clear hw hrl
            go_wp2_with fail
            go_loopw [10] (fun i v => ∃ z : Nat, z ≤ rl ∧ i = .int .i64 z ∧ Wiped w3 v a4 n rs4) (fun i _ => rl - (intOf i).toNat)
            case atStart => exact ⟨0, Nat.zero_le _, rfl, HW.out⟩
            case round =>
              obtain ⟨z, hz, rfl, hw⟩ := hrel
              clear HW
              obtain ⟨b, off, rfl, hcell⟩ := hw.head y hyn
              rw [HRL.out] at hcell
              obtain ⟨ra, hra⟩ : ∃ q, (rs4.getD y zrow).a = q := ⟨_, rfl⟩
              obtain ⟨rc, hrc⟩ : ∃ q, (rs4.getD y zrow).cap = q := ⟨_, rfl⟩
              rw [hra, hrc] at hcell
              clear hrc
              by_cases hzl : z < rl
              · obtain ⟨rb, roff, e, h1, h2, h3, c, h4⟩ := hw.rows y hyn z (by rw [HRL.out]; exact hzl)
                rw [hra] at e
                subst e
                have HW : Hid (Wiped w3 wr (some ⟨b, off, none⟩) n rs4) := hw
                have H2 : Hid (∀ ah, (some ⟨b, off, none⟩ : Option Addr) = some ah → rb ≠ ah.block) := h2
                have HC : Hid (wr.cell? ⟨rb, roff + z, none⟩ = some c) := h4
                have hz0 : (0 : Int) ≤ z := by omega
                have hzi : (z : Int) < rl := by omega
                clear hw h2 hra
                go_wp2_with fail
                go_roundw
                case rel => exact ⟨z + 1, by omega, by go_num, HW.out.set h1 H2.out HC.out⟩
                case measure => simp [intOf]; omega
              · obtain rfl : z = rl := by omega
                have HW : Hid (Wiped w3 wr (some ⟨b, off, none⟩) n rs4) := hw
                clear hw hra
                go_wp2_with fail
                go_roundw
                case rel => exact ⟨y + 1, by omega, by go_num, HW.out⟩
                case measure => simp [intOf]; omega
          · obtain rfl : y = n := by omega
            have HM1 : Hid (Mine L u1 wr p r (ts.drop 0)) := HM0.out _ hw.below
            clear hw HM0
            go_wp2_with fail
            go_loopw [11, 12, 13] (fun i _ _ v => ∃ z : Nat, z ≤ y ∧ i = .int .i64 z ∧ Mine L u1 v p r (ts.drop z)) (fun i _ _ _ => y - (intOf i).toNat)
            case atStart => exact ⟨0, Nat.zero_le _, rfl, HM1.out⟩
            case round =>
              obtain ⟨z, hz, rfl, hm⟩ := hrel
              clear HM1
              have HM : Hid (Mine L u1 wr p r (ts.drop z)) := hm
              clear hm
              have hmin : (if r < k then (r : Int) else (k : Int)) = y := by have := HMin.out; split <;> omega
              by_cases hzy : z < y
              · have hzi : (z : Int) < y := by omega
                have hz0 : (0 : Int) ≤ z := by omega
                have hzk : (z : Int) < k := by omega
                obtain ⟨b, off, rfl, hat⟩ := HO.out.at (k := z) (by omega)
                have e1 : (ts.drop z).getD 0 [] = (os.getD z zop).l := by
                  rw [← HGT.out z hzy, List.getD_eq_getElem?_getD, List.getD_eq_getElem?_getD, List.getElem?_drop, Nat.add_zero]
                obtain ⟨v, hv⟩ : ∃ v, os.getD z zop = v := ⟨_, rfl⟩
                rw [hv] at hat e1
                have HA : Hid (OpAt u1 b (off + z * 5) v) := hat
                have HE1 : Hid ((ts.drop z).getD 0 [] = v.l) := e1
                clear hat e1 hv
                go_wp2_with fail
                refine (mine_take S 0 HM.out (by rw [List.length_drop, HN.out]; omega)).mono ?_
                rintro e u5 ⟨a5, n5, c5, rfl, m5, o5⟩
                rw [HE1.out] at o5
                have m5' : Mine L u1 u5 p r (ts.drop (z + 1)) := by
                  have e : (ts.drop z).eraseIdx 0 = ts.drop (z + 1) := by rw [List.eraseIdx_zero, List.tail_drop]
                  rw [← e]; exact m5
                have HM5 : Hid (Mine L u1 u5 p r (ts.drop (z + 1))) := m5'
                have A4 := HA.out.below m5'.below
                obtain ⟨q1, q2, q3, q4, q5, hok⟩ := id A4
                have k1 := fun m : Nat => str_run (cap := c5) (o5.below (drewN_below u5 m))
                have k2 := fun m : Nat => str_run (cap := v.cap) (hok.1.below (drewN_below u5 m))
                obtain ⟨vk, va, vl, vc, vt, vi, vat, vx⟩ := v
                simp only at q2 k1 k2
                obtain ⟨S1, hS1⟩ : ∃ S, S = strOf vt := ⟨_, rfl⟩
                simp only [← hS1] at k1 k2
                clear hS1 m5 m5' A4 q1 q3 q4 q5 hok o5 HM HE1 HA
                have he1 : (S1.toList == S1.toList) = true := beq_self_eq_true _
                have he2 : (S1.toList != S1.toList) = false := by rw [bne, he1]; rfl
                go_wp2_with fail
                go_quiet (fail)
                go_wp2_with fail
                go_roundw
                case rel => exact ⟨z + 1, by omega, by go_num, HM5.out.on S (drewN_below _ _)⟩
                case measure => simp [intOf]; omega
              · obtain rfl : z = y := by omega
                have HE : Hid (Mine L u1 wr p r []) := by have := HM.out; rwa [List.drop_of_length_le (by rw [HN.out]; exact Nat.le_refl _)] at this
                clear HM
                go_wp2_with fail
                refine (mine_untaken S 0 HE.out (by omega) (by right; simp)).mono ?_
                rintro e u5 ⟨a5, n5, c5, rfl, m5, o5⟩
                have HM5 : Hid (Mine L u1 u5 p r []) := m5
                clear m5 o5
                go_wp2_with fail
                go_ret
                exact ⟨rfl, HM5.out.below⟩
end Go.Proofs.Ytjelfenkbngfiaa
