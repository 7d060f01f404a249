/-
  The law IslipRuns of package shunterlaw10: matchings, and where it looks first, are what the document says, at any requests, in any rounds. Conditions: that the table of math/bits holds what its initialiser lays.
-/
import Derived.Test.YtlojadodabddpaaDoorIslU
namespace Go.Proofs.YtlojadodabddpaaDoor
open Go.ChangeShapes Go.WideShapes Go.ChangeAt Go.RowKit
set_option linter.unusedVariables false

theorem getD_lt {l : List Nat} {k n : Nat} (h : ∀ x ∈ l, x < n) (hn : 0 < n) : l.getD k 0 < n := by
  rw [List.getD_eq_getElem?_getD]
  by_cases hk : k < l.length
  · rw [List.getElem?_eq_getElem hk]; exact h _ (List.getElem_mem hk)
  · rw [List.getElem?_eq_none (by omega)]; exact hn
set_option maxRecDepth 100000 in
set_option maxHeartbeats 8000000 in
theorem islipRuns_any (w : World) (hT : Tab w) (z : Int) (wz : (Lit.int .i64 z).wf = true) (k0 : Int) (wk : (Lit.int .u8 k0).wf = true) (x : Option Addr) (len cap : Nat) (rs : List RowM) (hr : Rws w x len rs) (y : Option Addr) (ylen ycap : Nat) (zs : List Int) (hy : Zs w y ylen zs) :
    Calls Tryd.prog 6 #[.int .i64 z, .int .u8 k0, .slice x len cap, .slice y ylen ycap] w fun e w' => e = .returned (.bool true) ∧ Below w.heap.size w w' := by
  obtain ⟨k, rfl, hk⟩ := nat_u8 wk
  have hz := bounds_i64 wz
  have HT : Hid (Tab w) := hT
  have HR : Hid (Rws w x len rs) := hr
  have HY : Hid (Zs w y ylen zs) := hy
  have h0 := hT.lt
  have hlen := hr.2.1
  have hyl := hy.2.1
  clear hT hr hy wk wz
  go_enter Tryd.func6, Tryd.ntmps6
  go_wp2_with fail
  go_loopw [9, 10] (fun v j wr => ∃ (i : Nat) (s : Int), i ≤ len ∧ v = .int .i64 s ∧ j = .int .i64 i ∧ wr = w) (fun _ j _ => len - (intOf j).toNat)
  case atStart => exact ⟨0, 0, Nat.zero_le _, rfl, rfl, rfl⟩
  case round =>
    obtain ⟨i, s, hi, rfl, rfl, hww⟩ := hrel
    obtain rfl := hww.symm
    clear hww
    by_cases hil : i < len
    · obtain ⟨xb, xo, rfl, hx, _⟩ := HR.out.at hil
      obtain ⟨row, hrow⟩ : ∃ row, rs.getD i zrow = row := ⟨_, rfl⟩
      rw [hrow] at hx
      clear hrow
      go_wp2_with fail
      all_goals
        go_roundw
        case rel => first | exact ⟨i + 1, _, by omega, rfl, by go_num, by first | rfl | trivial⟩ | ((repeat apply Exists.intro); exact ⟨⟨i + 1, _, by omega, rfl, by go_num, by first | rfl | trivial⟩, rfl⟩)
        case measure => simp [intOf]; omega
    · obtain rfl : len = i := by omega
      by_cases hbig : 30 < len ∨ 500 < s ∨ 100 < ylen
      · by_cases d1 : 30 < len
        · have e1 : decide ((30 : Int) < (len : Int)) = true := decide_eq_true (by omega)
          go_wp2_with fail
          refine (known_any _ HT.out).mono ?_
          rintro e w1 ⟨rfl, b1⟩
          go_wp2_with fail
          go_ret
          exact ⟨rfl, b1⟩
        · have e1 : decide ((30 : Int) < (len : Int)) = false := decide_eq_false (by omega)
          by_cases d2 : 500 < s
          · have e2 : decide ((500 : Int) < s) = true := decide_eq_true d2
            go_wp2_with fail
            refine (known_any _ HT.out).mono ?_
            rintro e w1 ⟨rfl, b1⟩
            go_wp2_with fail
            go_ret
            exact ⟨rfl, b1⟩
          · have e2 : decide ((500 : Int) < s) = false := decide_eq_false d2
            have e3 : decide ((100 : Int) < (ylen : Int)) = true := decide_eq_true (by omega)
            go_wp2_with fail
            refine (known_any _ HT.out).mono ?_
            rintro e w1 ⟨rfl, b1⟩
            go_wp2_with fail
            go_ret
            exact ⟨rfl, b1⟩
      · have e1 : decide ((30 : Int) < (len : Int)) = false := decide_eq_false (by omega)
        have e2 : decide ((500 : Int) < s) = false := decide_eq_false (by omega)
        have e3 : decide ((100 : Int) < (ylen : Int)) = false := decide_eq_false (by omega)
        clear hi hil
        go_wp2_with fail
        refine (known_any _ HT.out).mono ?_
        rintro e w0 ⟨rfl, b0⟩
        by_cases hg : 1 ≤ z ∧ z ≤ 16
        · obtain ⟨n, rfl⟩ := Int.eq_ofNat_of_zero_le (show 0 ≤ z by omega)
          have hN1 : 1 ≤ n := by omega
          have hN16 : n ≤ 16 := by omega
          go_wp2_with fail
          refine (new_good n ⟨hN1, hN16⟩ w0).mono ?_
          rintro e w1 ⟨p, g, a, rfl, hA, hB, h1, h2, h3⟩
          go_wp2_with fail
          refine (rnew_good n ⟨hN1, hN16⟩ w1).mono ?_
          rintro e w2 ⟨q, g', a', rfl, hA', hB', h1', h2', h3'⟩
          have HS : Hid (Arb w2 p g a n (fun _ => 0) (fun _ => 0) ∧ Arb w2 q g' a' n (fun _ => 0) (fun _ => 0) ∧ Below w.heap.size w w2) := ⟨hA.below hB', hA', later (later b0 hB) hB'⟩
          have hs0 := b0.size
          have hs1 := hB.size
          have l1 := hA.lp
          have l2 := hA.lg
          have l3 := hA.la
          have hd : w.heap.size ≤ p ∧ w.heap.size ≤ g ∧ w.heap.size ≤ a ∧ w.heap.size ≤ q ∧ w.heap.size ≤ g' ∧ w.heap.size ≤ a' ∧ p ≠ q ∧ p ≠ g' ∧ p ≠ a' ∧ g ≠ q ∧ g ≠ g' ∧ g ≠ a' ∧ a ≠ q ∧ a ≠ g' ∧ a ≠ a' := by omega
          clear hA hA' hB hB' b0 h1 h2 h3 h1' h2' h3' hs0 hs1 l1 l2 l3
          go_wp2_with fail
          go_loopw [13, 14, 15] (fun v _ _ wr => ∃ (i : Nat) (G A : Nat → Nat), i ≤ len ∧ v = .int .i64 i ∧ Arb wr p g a n G A ∧ Arb wr q g' a' n G A ∧ Below w.heap.size w wr) (fun v _ _ _ => len - (intOf v).toNat)
          case atStart => exact ⟨0, _, _, Nat.zero_le _, rfl, HS.out⟩
          case round =>
            obtain ⟨i, G, A, hi, rfl, hA, hA', hB⟩ := hrel
            have HK : Hid (Arb wr p g a n G A ∧ Arb wr q g' a' n G A ∧ Below w.heap.size w wr) := ⟨hA, hA', hB⟩
            clear hA hA' hB HS
            by_cases hil : i < len
            · have hlow := HR.out.low hil
              obtain ⟨xb, xo, rfl, hx, hok⟩ := (HR.out.below HK.out.2.2).at hil
              obtain ⟨row, hrow⟩ : ∃ row, rs.getD i zrow = row := ⟨_, rfl⟩
              rw [hrow] at hx hok hlow
              have HO : Hid (row.ok wr) := hok
              have HLow : Hid (row.len ≠ 0 → ∀ ad, row.a = some ad → ad.block < w.heap.size) := hlow
              clear hrow hok hlow
              by_cases hk8 : 0 < k % 8
              · have e8 : decide ((0 : Int) < (k : Int) % 8) = true := decide_eq_true (by omega)
                go_wp2_with fail
                refine (square_any row.a row.len row.cap n row.l hN16 _ HO.out.1).mono ?_
                rintro e W ⟨rfl, hC, hb⟩
                have HW : Hid (Arb W p g a n G A ∧ Arb W q g' a' n G A ∧ Below w.heap.size w W) := ⟨HK.out.1.below hb, HK.out.2.1.below hb, later HK.out.2.2 hb⟩
                have lk1 := HK.out.1.lg
                have lk2 := HK.out.1.la
                have lk3 := HK.out.2.1.lg
                have lk4 := HK.out.2.1.la
                obtain ⟨sb, hsb⟩ : ∃ sb, wr.heap.size = sb := ⟨_, rfl⟩
                rw [hsb] at hC lk1 lk2 lk3 lk4 ⊢
                have HN : Hid (Nums .u16 W (some ⟨sb, 0, none⟩) n ((List.range n).map fun i => row.l.getD i 0) ∧ (∀ x ∈ ((List.range n).map fun i => row.l.getD i 0), x < 65536) ∧ n ≤ n ∧ n ≤ 140737488351232 ∧ (n ≠ 0 → ∀ ad, (some ⟨sb, 0, none⟩ : Option Addr) = some ad → ad.block ≠ g ∧ ad.block ≠ a ∧ ad.block ≠ g' ∧ ad.block ≠ a')) := by
                  refine ⟨hC.nums hN16 (by simp) (fun k hk => by simp [List.getD, hk]), fun x hx => ?_, Nat.le_refl _, by omega, fun _ ad e => by cases e; dsimp only; omega⟩
                  obtain ⟨j, _, rfl⟩ := List.mem_map.1 hx
                  exact getD_lt HO.out.2.1 (by omega)
                obtain ⟨rows, hrows⟩ : ∃ rows, ((List.range n).map fun i => row.l.getD i 0) = rows := ⟨_, rfl⟩
                rw [hrows] at HN
                clear hC hb hrows HK HO HLow hx hsb lk1 lk2 lk3 lk4
                by_cases hiy : i < ylen
                · obtain ⟨yb, yo, rfl, hyc⟩ := (HY.out.below HW.out.2.2).2.2.1.at hiy
                  have hzr := HY.out.2.2.2 i
                  obtain ⟨Z, hZ⟩ : ∃ Z, zs.getD i 0 = Z := ⟨_, rfl⟩
                  rw [hZ] at hyc hzr
                  have HZ : Hid (-9223372036854775808 ≤ Z ∧ Z ≤ 9223372036854775807) := hzr
                  have ey : decide ((i : Int) < (ylen : Int)) = true := decide_eq_true (by omega)
                  clear hzr hZ
                  have HP : Hid (Arb W.drew p g a n G A ∧ Arb W.drew q g' a' n G A) := ⟨HW.out.1.below (drewN_below _ 1), HW.out.2.1.below (drewN_below _ 1)⟩
                  have HX : Hid (Nums .u16 W.drew (some ⟨sb, 0, none⟩) n rows) := HN.out.1.below (drewN_below _ 1)
                  have q0 := HW.out.2.1.c0
                  have q1 := HW.out.2.1.c1
                  have lA := HP.out.1.lp
                  have lB := HP.out.1.lg
                  have lC := HP.out.1.la
                  have lD := HP.out.2.lp
                  have lE := HP.out.2.lg
                  have lF := HP.out.2.la
                  obtain ⟨L, f, G1, A1, hres⟩ := res_of n n Z (fun i => rows.getD i 0) G A
                  have hL16 := hres.le hN16
                  have HRes : Hid (Res n n Z (fun i => rows.getD i 0) G A L f G1 A1) := hres
                  have bW : Below w.heap.size w W.drew := later HW.out.2.2 (drewN_below W 1)
                  clear hres
                  go_wp2_with fail
                  go_region_held3 (fun w' => w'.cell? ⟨q, 0, none⟩ = some (.slice (some ⟨g', 0, none⟩) n n) ∧ w'.cell? ⟨q, 1, none⟩ = some (.slice (some ⟨a', 0, none⟩) n n)) (go_keep) (first
                    | (go_at_call 16; refine (run_all HP.out.1 (some ⟨sb, 0, none⟩) n n HN.out.2.2.1 HN.out.2.2.2.1 rows HN.out.2.1 HX.out (HT.out.below bW h0) Z HZ.out HRes.out).mono ?_; rintro e u1 ⟨oa, cp, rfl, ol, oap, a1, s1⟩; have r1 := HP.out.2.sans s1 (by omega) (by omega) (by omega); have q2 := r1.c0; have q3 := r1.c1)
                    | (go_at_call 20; refine (rrun_all r1 (some ⟨sb, 0, none⟩) n n HN.out.2.2.1 HN.out.2.2.2.1 rows HN.out.2.1 (HX.out.sans0 s1 (fun e0 ad e h => by have := HN.out.2.2.2.2 e0 ad e; omega)) (fun e0 ad e => by have := HN.out.2.2.2.2 e0 ad e; omega) Z HZ.out HRes.out).mono ?_; rintro e u2 ⟨ob, cp2, rfl, ol2, oap2, r2, s2⟩; have a2 := a1.sans s2 (by omega) (by omega) (by omega); have q4 := r2.c0; have q5 := r2.c1; have ol3 : Led u2 oa L f := ol.sans s2 (fun ad e h => by have := oap ad e; omega))
                    | (go_at_call_of 17 (Value.slice oa L cp); refine (same_any oa ob L cp cp2 f _ (by omega) ol3 ol2).mono ?_; rintro e u3 ⟨rfl, k3⟩; have a3 := a2.below k3; have r3 := r2.below k3; have q6 := r3.c0; have q7 := r3.c1)
                    | (go_at_call 13; refine (grants_any a3).mono ?_; rintro e u4 ⟨gb, gc, rfl, hgb, gi, k4⟩; have a4 := a3.below k4; have r4 := r3.below k4; have q8 := r4.c0; have q9 := r4.c1)
                    | (go_at_call_of 17 (Value.slice (some ⟨gb, 0, none⟩) n gc); refine (same_any (some ⟨gb, 0, none⟩) (some ⟨g', 0, none⟩) n gc n (fun k => (G1 k : Nat)) _ (by omega) gi.led r4.gs.led).mono ?_; rintro e u5 ⟨rfl, k5⟩; have a5 := a4.below k5; have r5 := r4.below k5; have q10 := r5.c0; have q11 := r5.c1)
                    | (go_at_call 14; refine (accepts_any a5).mono ?_; rintro e u6 ⟨ab, ac, rfl, hab, ai, k6⟩; have a6 := a5.below k6; have r6 := r5.below k6; have q12 := r6.c0; have q13 := r6.c1)
                    | (go_at_call_of 17 (Value.slice (some ⟨ab, 0, none⟩) n ac); refine (same_any (some ⟨ab, 0, none⟩) (some ⟨a', 0, none⟩) n ac n (fun k => (A1 k : Nat)) _ (by omega) ai.led r6.ac.led).mono ?_; rintro e u7 ⟨rfl, k7⟩; have a7 := a6.below k7; have r7 := r6.below k7; have q14 := r7.c0; have q15 := r7.c1))
                  have c1 : Below w.heap.size w u1 := bW.trans (s1.below bW.size (fun k e => by omega))
                  have c2 : Below w.heap.size w u2 := c1.trans (s2.below c1.size (fun k e => by omega))
                  have HF : Hid (Arb u7 p g a n G1 A1 ∧ Arb u7 q g' a' n G1 A1 ∧ Below w.heap.size w u7) := ⟨a7, r7, later (later (later (later (later c2 k3) k4) k5) k6) k7⟩
                  clear q0 q1 q2 q3 q4 q5 q6 q7 q8 q9 q10 q11 q12 q13 q14 q15 a1 a2 a3 a4 a5 a6 a7 r1 r2 r3 r4 r5 r6 r7
                  go_wp2_with fail
                  go_roundw
                  case rel => first | exact ⟨i + 1, G1, A1, by omega, by go_num, HF.out⟩ | ((repeat apply Exists.intro); exact ⟨⟨i + 1, G1, A1, by omega, by go_num, HF.out⟩, rfl⟩)
                  case measure => simp [intOf]; omega
                · have ey : decide ((i : Int) < (ylen : Int)) = false := decide_eq_false (by omega)
                  have HZ : Hid (-9223372036854775808 ≤ (1 : Int) ∧ (1 : Int) ≤ 9223372036854775807) := by show _ ∧ _; omega
                  have HP : Hid (Arb W.drew p g a n G A ∧ Arb W.drew q g' a' n G A) := ⟨HW.out.1.below (drewN_below _ 1), HW.out.2.1.below (drewN_below _ 1)⟩
                  have HX : Hid (Nums .u16 W.drew (some ⟨sb, 0, none⟩) n rows) := HN.out.1.below (drewN_below _ 1)
                  have q0 := HW.out.2.1.c0
                  have q1 := HW.out.2.1.c1
                  have lA := HP.out.1.lp
                  have lB := HP.out.1.lg
                  have lC := HP.out.1.la
                  have lD := HP.out.2.lp
                  have lE := HP.out.2.lg
                  have lF := HP.out.2.la
                  obtain ⟨L, f, G1, A1, hres⟩ := res_of n n 1 (fun i => rows.getD i 0) G A
                  have hL16 := hres.le hN16
                  have HRes : Hid (Res n n 1 (fun i => rows.getD i 0) G A L f G1 A1) := hres
                  have bW : Below w.heap.size w W.drew := later HW.out.2.2 (drewN_below W 1)
                  clear hres
                  go_wp2_with fail
                  go_region_held3 (fun w' => w'.cell? ⟨q, 0, none⟩ = some (.slice (some ⟨g', 0, none⟩) n n) ∧ w'.cell? ⟨q, 1, none⟩ = some (.slice (some ⟨a', 0, none⟩) n n)) (go_keep) (first
                    | (go_at_call 16; refine (run_all HP.out.1 (some ⟨sb, 0, none⟩) n n HN.out.2.2.1 HN.out.2.2.2.1 rows HN.out.2.1 HX.out (HT.out.below bW h0) 1 HZ.out HRes.out).mono ?_; rintro e u1 ⟨oa, cp, rfl, ol, oap, a1, s1⟩; have r1 := HP.out.2.sans s1 (by omega) (by omega) (by omega); have q2 := r1.c0; have q3 := r1.c1)
                    | (go_at_call 20; refine (rrun_all r1 (some ⟨sb, 0, none⟩) n n HN.out.2.2.1 HN.out.2.2.2.1 rows HN.out.2.1 (HX.out.sans0 s1 (fun e0 ad e h => by have := HN.out.2.2.2.2 e0 ad e; omega)) (fun e0 ad e => by have := HN.out.2.2.2.2 e0 ad e; omega) 1 HZ.out HRes.out).mono ?_; rintro e u2 ⟨ob, cp2, rfl, ol2, oap2, r2, s2⟩; have a2 := a1.sans s2 (by omega) (by omega) (by omega); have q4 := r2.c0; have q5 := r2.c1; have ol3 : Led u2 oa L f := ol.sans s2 (fun ad e h => by have := oap ad e; omega))
                    | (go_at_call_of 17 (Value.slice oa L cp); refine (same_any oa ob L cp cp2 f _ (by omega) ol3 ol2).mono ?_; rintro e u3 ⟨rfl, k3⟩; have a3 := a2.below k3; have r3 := r2.below k3; have q6 := r3.c0; have q7 := r3.c1)
                    | (go_at_call 13; refine (grants_any a3).mono ?_; rintro e u4 ⟨gb, gc, rfl, hgb, gi, k4⟩; have a4 := a3.below k4; have r4 := r3.below k4; have q8 := r4.c0; have q9 := r4.c1)
                    | (go_at_call_of 17 (Value.slice (some ⟨gb, 0, none⟩) n gc); refine (same_any (some ⟨gb, 0, none⟩) (some ⟨g', 0, none⟩) n gc n (fun k => (G1 k : Nat)) _ (by omega) gi.led r4.gs.led).mono ?_; rintro e u5 ⟨rfl, k5⟩; have a5 := a4.below k5; have r5 := r4.below k5; have q10 := r5.c0; have q11 := r5.c1)
                    | (go_at_call 14; refine (accepts_any a5).mono ?_; rintro e u6 ⟨ab, ac, rfl, hab, ai, k6⟩; have a6 := a5.below k6; have r6 := r5.below k6; have q12 := r6.c0; have q13 := r6.c1)
                    | (go_at_call_of 17 (Value.slice (some ⟨ab, 0, none⟩) n ac); refine (same_any (some ⟨ab, 0, none⟩) (some ⟨a', 0, none⟩) n ac n (fun k => (A1 k : Nat)) _ (by omega) ai.led r6.ac.led).mono ?_; rintro e u7 ⟨rfl, k7⟩; have a7 := a6.below k7; have r7 := r6.below k7; have q14 := r7.c0; have q15 := r7.c1))
                  have c1 : Below w.heap.size w u1 := bW.trans (s1.below bW.size (fun k e => by omega))
                  have c2 : Below w.heap.size w u2 := c1.trans (s2.below c1.size (fun k e => by omega))
                  have HF : Hid (Arb u7 p g a n G1 A1 ∧ Arb u7 q g' a' n G1 A1 ∧ Below w.heap.size w u7) := ⟨a7, r7, later (later (later (later (later c2 k3) k4) k5) k6) k7⟩
                  clear q0 q1 q2 q3 q4 q5 q6 q7 q8 q9 q10 q11 q12 q13 q14 q15 a1 a2 a3 a4 a5 a6 a7 r1 r2 r3 r4 r5 r6 r7
                  go_wp2_with fail
                  go_roundw
                  case rel => first | exact ⟨i + 1, G1, A1, by omega, by go_num, HF.out⟩ | ((repeat apply Exists.intro); exact ⟨⟨i + 1, G1, A1, by omega, by go_num, HF.out⟩, rfl⟩)
                  case measure => simp [intOf]; omega
              · have e8 : decide ((0 : Int) < (k : Int) % 8) = false := decide_eq_false (by omega)
                have HW : Hid (Arb wr p g a n G A ∧ Arb wr q g' a' n G A ∧ Below w.heap.size w wr) := HK.out
                have HN : Hid (Nums .u16 wr row.a row.len row.l ∧ (∀ x ∈ row.l, x < 65536) ∧ row.len ≤ row.cap ∧ row.cap ≤ 140737488351232 ∧ (row.len ≠ 0 → ∀ ad, row.a = some ad → ad.block ≠ g ∧ ad.block ≠ a ∧ ad.block ≠ g' ∧ ad.block ≠ a')) := ⟨HO.out.1, HO.out.2.1, HO.out.2.2.1, HO.out.2.2.2, fun e0 ad e => by have := HLow.out e0 ad e; omega⟩
                have hrl : row.len ≤ 140737488351232 := by have := HN.out.2.2.1; have := HN.out.2.2.2.1; omega
                clear HK HO HLow
                by_cases hiy : i < ylen
                · obtain ⟨yb, yo, rfl, hyc⟩ := (HY.out.below HW.out.2.2).2.2.1.at hiy
                  have hzr := HY.out.2.2.2 i
                  obtain ⟨Z, hZ⟩ : ∃ Z, zs.getD i 0 = Z := ⟨_, rfl⟩
                  rw [hZ] at hyc hzr
                  have HZ : Hid (-9223372036854775808 ≤ Z ∧ Z ≤ 9223372036854775807) := hzr
                  have ey : decide ((i : Int) < (ylen : Int)) = true := decide_eq_true (by omega)
                  clear hzr hZ
                  have HP : Hid (Arb wr.drew p g a n G A ∧ Arb wr.drew q g' a' n G A) := ⟨HW.out.1.below (drewN_below _ 1), HW.out.2.1.below (drewN_below _ 1)⟩
                  have HX : Hid (Nums .u16 wr.drew row.a row.len row.l) := HN.out.1.below (drewN_below _ 1)
                  have q0 := HW.out.2.1.c0
                  have q1 := HW.out.2.1.c1
                  have lA := HP.out.1.lp
                  have lB := HP.out.1.lg
                  have lC := HP.out.1.la
                  have lD := HP.out.2.lp
                  have lE := HP.out.2.lg
                  have lF := HP.out.2.la
                  obtain ⟨L, f, G1, A1, hres⟩ := res_of row.len n Z (fun i => row.l.getD i 0) G A
                  have hL16 := hres.le hN16
                  have HRes : Hid (Res row.len n Z (fun i => row.l.getD i 0) G A L f G1 A1) := hres
                  have bW : Below w.heap.size w wr.drew := later HW.out.2.2 (drewN_below wr 1)
                  clear hres
                  go_wp2_with fail
                  go_region_held3 (fun w' => w'.cell? ⟨q, 0, none⟩ = some (.slice (some ⟨g', 0, none⟩) n n) ∧ w'.cell? ⟨q, 1, none⟩ = some (.slice (some ⟨a', 0, none⟩) n n)) (go_keep) (first
                    | (go_at_call 16; refine (run_all HP.out.1 row.a row.len row.cap HN.out.2.2.1 HN.out.2.2.2.1 row.l HN.out.2.1 HX.out (HT.out.below bW h0) Z HZ.out HRes.out).mono ?_; rintro e u1 ⟨oa, cp, rfl, ol, oap, a1, s1⟩; have r1 := HP.out.2.sans s1 (by omega) (by omega) (by omega); have q2 := r1.c0; have q3 := r1.c1)
                    | (go_at_call 20; refine (rrun_all r1 row.a row.len row.cap HN.out.2.2.1 HN.out.2.2.2.1 row.l HN.out.2.1 (HX.out.sans0 s1 (fun e0 ad e h => by have := HN.out.2.2.2.2 e0 ad e; omega)) (fun e0 ad e => by have := HN.out.2.2.2.2 e0 ad e; omega) Z HZ.out HRes.out).mono ?_; rintro e u2 ⟨ob, cp2, rfl, ol2, oap2, r2, s2⟩; have a2 := a1.sans s2 (by omega) (by omega) (by omega); have q4 := r2.c0; have q5 := r2.c1; have ol3 : Led u2 oa L f := ol.sans s2 (fun ad e h => by have := oap ad e; omega))
                    | (go_at_call_of 17 (Value.slice oa L cp); refine (same_any oa ob L cp cp2 f _ (by omega) ol3 ol2).mono ?_; rintro e u3 ⟨rfl, k3⟩; have a3 := a2.below k3; have r3 := r2.below k3; have q6 := r3.c0; have q7 := r3.c1)
                    | (go_at_call 13; refine (grants_any a3).mono ?_; rintro e u4 ⟨gb, gc, rfl, hgb, gi, k4⟩; have a4 := a3.below k4; have r4 := r3.below k4; have q8 := r4.c0; have q9 := r4.c1)
                    | (go_at_call_of 17 (Value.slice (some ⟨gb, 0, none⟩) n gc); refine (same_any (some ⟨gb, 0, none⟩) (some ⟨g', 0, none⟩) n gc n (fun k => (G1 k : Nat)) _ (by omega) gi.led r4.gs.led).mono ?_; rintro e u5 ⟨rfl, k5⟩; have a5 := a4.below k5; have r5 := r4.below k5; have q10 := r5.c0; have q11 := r5.c1)
                    | (go_at_call 14; refine (accepts_any a5).mono ?_; rintro e u6 ⟨ab, ac, rfl, hab, ai, k6⟩; have a6 := a5.below k6; have r6 := r5.below k6; have q12 := r6.c0; have q13 := r6.c1)
                    | (go_at_call_of 17 (Value.slice (some ⟨ab, 0, none⟩) n ac); refine (same_any (some ⟨ab, 0, none⟩) (some ⟨a', 0, none⟩) n ac n (fun k => (A1 k : Nat)) _ (by omega) ai.led r6.ac.led).mono ?_; rintro e u7 ⟨rfl, k7⟩; have a7 := a6.below k7; have r7 := r6.below k7; have q14 := r7.c0; have q15 := r7.c1))
                  have c1 : Below w.heap.size w u1 := bW.trans (s1.below bW.size (fun k e => by omega))
                  have c2 : Below w.heap.size w u2 := c1.trans (s2.below c1.size (fun k e => by omega))
                  have HF : Hid (Arb u7 p g a n G1 A1 ∧ Arb u7 q g' a' n G1 A1 ∧ Below w.heap.size w u7) := ⟨a7, r7, later (later (later (later (later c2 k3) k4) k5) k6) k7⟩
                  clear q0 q1 q2 q3 q4 q5 q6 q7 q8 q9 q10 q11 q12 q13 q14 q15 a1 a2 a3 a4 a5 a6 a7 r1 r2 r3 r4 r5 r6 r7
                  go_wp2_with fail
                  go_roundw
                  case rel => first | exact ⟨i + 1, G1, A1, by omega, by go_num, HF.out⟩ | ((repeat apply Exists.intro); exact ⟨⟨i + 1, G1, A1, by omega, by go_num, HF.out⟩, rfl⟩)
                  case measure => simp [intOf]; omega
                · have ey : decide ((i : Int) < (ylen : Int)) = false := decide_eq_false (by omega)
                  have HZ : Hid (-9223372036854775808 ≤ (1 : Int) ∧ (1 : Int) ≤ 9223372036854775807) := by show _ ∧ _; omega
                  have HP : Hid (Arb wr.drew p g a n G A ∧ Arb wr.drew q g' a' n G A) := ⟨HW.out.1.below (drewN_below _ 1), HW.out.2.1.below (drewN_below _ 1)⟩
                  have HX : Hid (Nums .u16 wr.drew row.a row.len row.l) := HN.out.1.below (drewN_below _ 1)
                  have q0 := HW.out.2.1.c0
                  have q1 := HW.out.2.1.c1
                  have lA := HP.out.1.lp
                  have lB := HP.out.1.lg
                  have lC := HP.out.1.la
                  have lD := HP.out.2.lp
                  have lE := HP.out.2.lg
                  have lF := HP.out.2.la
                  obtain ⟨L, f, G1, A1, hres⟩ := res_of row.len n 1 (fun i => row.l.getD i 0) G A
                  have hL16 := hres.le hN16
                  have HRes : Hid (Res row.len n 1 (fun i => row.l.getD i 0) G A L f G1 A1) := hres
                  have bW : Below w.heap.size w wr.drew := later HW.out.2.2 (drewN_below wr 1)
                  clear hres
                  go_wp2_with fail
                  go_region_held3 (fun w' => w'.cell? ⟨q, 0, none⟩ = some (.slice (some ⟨g', 0, none⟩) n n) ∧ w'.cell? ⟨q, 1, none⟩ = some (.slice (some ⟨a', 0, none⟩) n n)) (go_keep) (first
                    | (go_at_call 16; refine (run_all HP.out.1 row.a row.len row.cap HN.out.2.2.1 HN.out.2.2.2.1 row.l HN.out.2.1 HX.out (HT.out.below bW h0) 1 HZ.out HRes.out).mono ?_; rintro e u1 ⟨oa, cp, rfl, ol, oap, a1, s1⟩; have r1 := HP.out.2.sans s1 (by omega) (by omega) (by omega); have q2 := r1.c0; have q3 := r1.c1)
                    | (go_at_call 20; refine (rrun_all r1 row.a row.len row.cap HN.out.2.2.1 HN.out.2.2.2.1 row.l HN.out.2.1 (HX.out.sans0 s1 (fun e0 ad e h => by have := HN.out.2.2.2.2 e0 ad e; omega)) (fun e0 ad e => by have := HN.out.2.2.2.2 e0 ad e; omega) 1 HZ.out HRes.out).mono ?_; rintro e u2 ⟨ob, cp2, rfl, ol2, oap2, r2, s2⟩; have a2 := a1.sans s2 (by omega) (by omega) (by omega); have q4 := r2.c0; have q5 := r2.c1; have ol3 : Led u2 oa L f := ol.sans s2 (fun ad e h => by have := oap ad e; omega))
                    | (go_at_call_of 17 (Value.slice oa L cp); refine (same_any oa ob L cp cp2 f _ (by omega) ol3 ol2).mono ?_; rintro e u3 ⟨rfl, k3⟩; have a3 := a2.below k3; have r3 := r2.below k3; have q6 := r3.c0; have q7 := r3.c1)
                    | (go_at_call 13; refine (grants_any a3).mono ?_; rintro e u4 ⟨gb, gc, rfl, hgb, gi, k4⟩; have a4 := a3.below k4; have r4 := r3.below k4; have q8 := r4.c0; have q9 := r4.c1)
                    | (go_at_call_of 17 (Value.slice (some ⟨gb, 0, none⟩) n gc); refine (same_any (some ⟨gb, 0, none⟩) (some ⟨g', 0, none⟩) n gc n (fun k => (G1 k : Nat)) _ (by omega) gi.led r4.gs.led).mono ?_; rintro e u5 ⟨rfl, k5⟩; have a5 := a4.below k5; have r5 := r4.below k5; have q10 := r5.c0; have q11 := r5.c1)
                    | (go_at_call 14; refine (accepts_any a5).mono ?_; rintro e u6 ⟨ab, ac, rfl, hab, ai, k6⟩; have a6 := a5.below k6; have r6 := r5.below k6; have q12 := r6.c0; have q13 := r6.c1)
                    | (go_at_call_of 17 (Value.slice (some ⟨ab, 0, none⟩) n ac); refine (same_any (some ⟨ab, 0, none⟩) (some ⟨a', 0, none⟩) n ac n (fun k => (A1 k : Nat)) _ (by omega) ai.led r6.ac.led).mono ?_; rintro e u7 ⟨rfl, k7⟩; have a7 := a6.below k7; have r7 := r6.below k7; have q14 := r7.c0; have q15 := r7.c1))
                  have c1 : Below w.heap.size w u1 := bW.trans (s1.below bW.size (fun k e => by omega))
                  have c2 : Below w.heap.size w u2 := c1.trans (s2.below c1.size (fun k e => by omega))
                  have HF : Hid (Arb u7 p g a n G1 A1 ∧ Arb u7 q g' a' n G1 A1 ∧ Below w.heap.size w u7) := ⟨a7, r7, later (later (later (later (later c2 k3) k4) k5) k6) k7⟩
                  clear q0 q1 q2 q3 q4 q5 q6 q7 q8 q9 q10 q11 q12 q13 q14 q15 a1 a2 a3 a4 a5 a6 a7 r1 r2 r3 r4 r5 r6 r7
                  go_wp2_with fail
                  go_roundw
                  case rel => first | exact ⟨i + 1, G1, A1, by omega, by go_num, HF.out⟩ | ((repeat apply Exists.intro); exact ⟨⟨i + 1, G1, A1, by omega, by go_num, HF.out⟩, rfl⟩)
                  case measure => simp [intOf]; omega
            · obtain rfl : i = len := by omega
              go_wp2_with fail
              go_ret
              exact ⟨rfl, HK.out.2.2⟩
        · have hb1 := new_bad z hg w0
          go_wp2_with fail
          refine hb1.mono ?_
          rintro e w1 ⟨rfl, hq⟩
          obtain rfl := hq.symm
          clear hq
          go_wp2_with fail
          refine (rnew_bad z hg _).mono ?_
          rintro e w2 ⟨rfl, hq⟩
          obtain rfl := hq.symm
          clear hq
          go_wp2_with fail
          go_ret
          exact ⟨rfl, b0⟩
end Go.Proofs.YtlojadodabddpaaDoor
