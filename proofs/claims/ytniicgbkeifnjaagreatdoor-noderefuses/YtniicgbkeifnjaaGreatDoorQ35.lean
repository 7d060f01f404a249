/-
  Contracts and plain facts that the walks lean on (NodeU, TreeAll, PlanStep). Conditions: none but those that each states.
-/
import Derived.Test.YtniicgbkeifnjaaGreatDoorQ34
namespace Go.Proofs.YtniicgbkeifnjaaGreatDoor
open Go.ChangeShapes Go.WideShapes Go.ChangeAt Go.RowKit
set_option linter.unusedVariables false
set_option maxRecDepth 100000
namespace Nd
theorem lay_field {w u u' : World} {q : Nat} {p : PV} {cs : List Value} (hB : Below w.heap.size w u) (hX : Bxd u w.heap.size p) (hN : NR u q cs) (hq : q < u.heap.size) (hw : w.heap.size + 1 ≤ q) (hB2 : Below u.heap.size u u') (i : Nat) (hi : i < cs.length) (x : Value) :
    Below w.heap.size w (u'.setCell ⟨q, i, none⟩ x) ∧ Bxd (u'.setCell ⟨q, i, none⟩ x) w.heap.size p ∧ NR (u'.setCell ⟨q, i, none⟩ x) q (cs.set i x) ∧ (u'.setCell ⟨q, i, none⟩ x).heap.size = u'.heap.size ∧ Sans (fun j => j = q) u' (u'.setCell ⟨q, i, none⟩ x) ∧ q < u'.heap.size := by
  have S : Sans (fun j => j = q) u' (u'.setCell ⟨q, i, none⟩ x) := Sans.of_set _ _ _ rfl
  have hb : Below w.heap.size w u' := later hB hB2
  exact ⟨hb.trans (S.below (B := w.heap.size) hb.size (fun j e => by omega)), (hX.below hB2).sans S (by omega), (hN.below hq hB2).set i hi x, World.size_setCell _ _ _, S, Nat.lt_of_lt_of_le hq hB2.size⟩
theorem NR.at6 {w : World} {q : Nat} {cs : List Value} (h : NR w q cs) (i : Nat) {x : Value} (hx : cs[i]? = some x) : w.cell? ⟨q, i, none⟩ = some x ∧ w.frozen? ⟨q, i, none⟩ = false := by
  have hi := (List.getElem?_eq_some_iff.1 hx).1
  exact ⟨(h i hi).1.trans hx, (h i hi).2⟩
set_option maxHeartbeats 8000000 in
set_option maxRecDepth 100000 in
theorem new_yes {w : World} {p : PV} {es : List (Int × Int)} {ws : List Int} {rs : List (List Int)} {n v : Nat} (h : PlN w p es ws rs) (hn : Newable p es ws rs v) (hk : NewOk p es ws rs n v) :
    Calls Tryz.prog 11 #[p.val, .int .i64 (v : Nat)] w fun e w' => ∃ q F, e = .returned (.pointer (some ⟨q, 0, none⟩)) ∧ NAt w' F q (cfgOf p es ws rs v) (st0 (cfgOf p es ws rs v) p.start.toNat) 0 ∧ Below w.heap.size w w' ∧ ∀ k, F k → w.heap.size ≤ k := by
  obtain ⟨L, hL⟩ := Int.eq_ofNat_of_zero_le (show 0 ≤ p.lanes by have := hk.lanes; omega)
  obtain ⟨qq, hQ⟩ := Int.eq_ofNat_of_zero_le (show 0 ≤ p.queue by have := hk.queue; omega)
  obtain ⟨rr, hR⟩ := Int.eq_ofNat_of_zero_le (show 0 ≤ p.room by have := hk.room; omega)
  have hn1 := hk.mn.nodes
  have two := hk.mn.two
  have hl3 := hk.lanes
  have hq8 := hk.queue
  have hr8 := hk.room
  have hbs5 := hk.bs5
  have hvn := hk.vn
  have HK : Hid (NewOk p es ws rs n v) := hk
  have HX : Hid (Bxd (w.alloc p.obj) w.heap.size p) := bxd_new w p
  have HB0 : Hid (Below w.heap.size w (w.alloc p.obj) ∧ (w.alloc p.obj).heap.size = w.heap.size + 1) := ⟨fresh _ _, by simp⟩
  have HC : Hid (∀ u : World, Below w.heap.size w u → Calls Tryz.prog 35 #[p.val] u fun e w' => e = .returned (.int .u16 0) ∧ Below u.heap.size u w') := fun u hu => by
    refine (rcheckland_any (h.below hu) hn.1).mono ?_
    rintro e w' ⟨z, rfl, hz, hB⟩
    rcases hz with ⟨h1, _⟩ | ⟨_, h2, _⟩ | ⟨_, _, rfl⟩
    · cases h1
    · exact absurd h2 hn.2.1
    · exact ⟨rfl, hB⟩
  obtain ⟨P, hP⟩ : ∃ P, (Plan.bes es v).length + 1 = P := ⟨_, rfl⟩
  have HCp : Hid (∀ u : World, Below w.heap.size w u → Calls Tryz.prog 36 #[p.val, .int .i64 (v : Nat)] u fun e w' => ∃ pb cp r ps, e = .returned (.slice (some ⟨pb, 0, none⟩) P cp) ∧ (P ≤ cp ∧ cp ≤ maxLen) ∧ (u.heap.size + 1 ≤ pb ∧ pb < w'.heap.size) ∧ Below u.heap.size u w' ∧ Parts w' (u.heap.size + 1) L (fun k => ws.getD k 0) p.start p.room v (Plan.bes es v) (Plan.bes es v).length (.slice (some ⟨pb, 0, none⟩) ((Plan.bes es v).length + 1) cp) r ps) := fun u hu => by
    refine (ports_new (h.below hu) hk hL).mono ?_
    rintro e w' ⟨x, r, ps, rfl, hB, hp⟩
    rcases hp.own.2 with ⟨_, h0⟩ | ⟨g, cp, cur, rfl, hb, hg, h1, h2, _, _⟩
    · omega
    · refine ⟨g, cp, r, ps, by rw [hP], ⟨by rw [← hP]; exact h1, h2⟩, ⟨hb, ?_⟩, hB, hp⟩
      obtain ⟨g', cp', e, hlt⟩ := owns_pos hp.own (Nat.succ_pos _)
      cases e
      exact hlt
  have HCw : Hid (∀ u : World, Below w.heap.size w u → Calls Tryz.prog 37 #[p.val, .int .i64 (v : Nat)] u fun e w' => ∃ g, e = .returned (.slice (some ⟨g, 0, none⟩) n n) ∧ u.heap.size ≤ g ∧ M.Ints w' g n (fun d => (wayOf es rs v d : Nat)) ∧ Below u.heap.size u w') := fun u hu => ways_new (h.below hu) hn1 (by omega) hk.mn.rows (hk.mn.row v hvn) hvn hk.port
  clear h hn hk
  obtain ⟨W, hWe⟩ : ∃ W, W = w.alloc p.obj := ⟨_, rfl⟩
  rw [← hWe] at HX HB0
  obtain ⟨nodes, lanes, room, queue, rounds, every, bag, start, ea, en, ec, wa, wn, wc, na, nn, nc⟩ := p
  simp only [PV.val, PV.obj] at hWe HC HCp HCw ⊢
  simp only at hL hQ hR hn1 hl3 hq8 hr8 HCp
  subst hL hQ hR hn1
  obtain ⟨x0, x1, x2, x3, x4, x5, x6, x7, x8, x9, x10⟩ := HX.out
  simp only at x0 x1 x2 x3 x4 x5 x6 x7 x8 x9 x10
  have hvI : (v : Int) < (n : Int) := by omega
  have hv0 : ¬ (v : Int) < 0 := by omega
  have hvn2 : ¬ (n : Int) ≤ (v : Int) := by omega
  go_enter Tryz.func11, Tryz.ntmps11
  go_upto_region 1 with fail
  rw [← hWe]
  clear hWe
  go_wp2_with fail
  refine (HC.out W HB0.out.1).mono ?_
  rintro e u ⟨rfl, hB⟩
  have HBu : Hid (Below w.heap.size w u ∧ W.heap.size ≤ u.heap.size) := ⟨later HB0.out.1 hB, hB.size⟩
  have hXu := HX.out.below hB
  have HXu : Hid _ := hXu
  clear x0 x1 x2 x3 x4 x5 x6 x7 x8 x9 x10 hB hXu
  obtain ⟨x0, x1, x2, x3, x4, x5, x6, x7, x8, x9, x10⟩ := HXu.out
  simp only at x0 x1 x2 x3 x4 x5 x6 x7 x8 x9 x10
  obtain ⟨q, hq⟩ : ∃ q, u.heap.size = q := ⟨_, rfl⟩
  obtain ⟨V, hV⟩ : ∃ V, V = u.alloc (.cells #[.int .i64 (v : Nat), .int .i64 (L : Nat), .int .i64 (rr : Nat), .int .i64 rounds, .int .i64 every, .int .i64 0, .slice none 0 0, .slice none 0 0, .pointer none, .pointer none, .pointer none] 99) := ⟨_, rfl⟩
  have HV : Hid (NR V q [.int .i64 (v : Nat), .int .i64 (L : Nat), .int .i64 (rr : Nat), .int .i64 rounds, .int .i64 every, .int .i64 0, .slice none 0 0, .slice none 0 0, .pointer none, .pointer none, .pointer none] ∧ V.heap.size = q + 1 ∧ Below u.heap.size u V) := by
    rw [hV, ← hq]
    refine ⟨fun j hj => ⟨?_, by simp⟩, by simp, fresh _ _⟩
    match j, hj with
    | 0, _ => simp
    | 1, _ => simp
    | 2, _ => simp
    | 3, _ => simp
    | 4, _ => simp
    | 5, _ => simp
    | 6, _ => simp
    | 7, _ => simp
    | 8, _ => simp
    | 9, _ => simp
    | 10, _ => simp
    | (j + 11), hj => simp at hj; omega
  go_upto_region 4 with fail
  rw [← hV]
  have HQq : Hid (w.heap.size + 1 ≤ q) := by have := HB0.out.2; have := HBu.out.2; show _ ≤ _; omega
  have HBV : Hid (Below w.heap.size w V) := later HBu.out.1 HV.out.2.2
  have hXV := HXu.out.below HV.out.2.2
  have HXV : Hid _ := hXV
  clear hV hq x0 x1 x2 x3 x4 x5 x6 x7 x8 x9 x10 hXV
  obtain ⟨x0, x1, x2, x3, x4, x5, x6, x7, x8, x9, x10⟩ := HXV.out
  simp only at x0 x1 x2 x3 x4 x5 x6 x7 x8 x9 x10
  go_wp2_with fail
  refine (HCp.out V HBV.out).mono ?_
  rintro e w3 ⟨pb, cp, r, ps, rfl, hcp, hpb, hB3, hpa⟩
  have HP3 : Hid _ := And.intro hcp (And.intro hpb hpa)
  have hqV : q < V.heap.size := by have := HV.out.2.1; omega
  have ST := lay_field HBV.out HXV.out HV.out.1 hqV HQq.out hB3 6 (by simp) (.slice (some ⟨pb, 0, none⟩) P cp)
  have HB3 : Hid (Below V.heap.size V w3) := hB3
  obtain ⟨k6, k6f⟩ := (HV.out.1.below hqV hB3).at6 6 rfl
  obtain ⟨U1, hU1⟩ : ∃ U1, U1 = w3.setCell ⟨q, 6, none⟩ (.slice (some ⟨pb, 0, none⟩) P cp) := ⟨_, rfl⟩
  rw [← hU1] at ST
  have HT1 : Hid _ := ST
  clear hcp hpb hB3 hpa x0 x1 x2 x3 x4 x5 x6 x7 x8 x9 x10 ST hqV
  go_upto_region 5 with fail
  rw [← hU1]
  clear hU1 k6 k6f
  obtain ⟨x0, x1, x2, x3, x4, x5, x6, x7, x8, x9, x10⟩ := HT1.out.2.1
  simp only at x0 x1 x2 x3 x4 x5 x6 x7 x8 x9 x10
  have hq1 : q < U1.heap.size := by rw [HT1.out.2.2.2.1]; exact HT1.out.2.2.2.2.2
  go_wp2_with fail
  refine (HCw.out U1 HT1.out.1).mono ?_
  rintro e w4 ⟨wb, rfl, hwb, hws, hB4⟩
  have HW4 : Hid _ := And.intro hwb (And.intro hws hB4)
  have ST := lay_field HT1.out.1 HT1.out.2.1 HT1.out.2.2.1 hq1 HQq.out hB4 7 (by simp) (.slice (some ⟨wb, 0, none⟩) n n)
  obtain ⟨k6, k6f⟩ := (HT1.out.2.2.1.below hq1 hB4).at6 7 rfl
  obtain ⟨U2, hU2⟩ : ∃ U2, U2 = w4.setCell ⟨q, 7, none⟩ (.slice (some ⟨wb, 0, none⟩) n n) := ⟨_, rfl⟩
  rw [← hU2] at ST
  have HT2 : Hid _ := ST
  clear hwb hws hB4 x0 x1 x2 x3 x4 x5 x6 x7 x8 x9 x10 ST hq1
  go_upto_region 6 with fail
  rw [← hU2]
  clear hU2 k6 k6f
  obtain ⟨x0, x1, x2, x3, x4, x5, x6, x7, x8, x9, x10⟩ := HT2.out.2.1
  simp only at x0 x1 x2 x3 x4 x5 x6 x7 x8 x9 x10
  have hq2 : q < U2.heap.size := by rw [HT2.out.2.2.2.1]; exact HT2.out.2.2.2.2.2
  go_wp2_with fail
  refine (K.hNew_yes L qq (by omega) (by omega) U2).mono ?_
  rintro e w5 ⟨ph, FH, rfl, hha, hB5, hFH⟩
  have HH5 : Hid _ := And.intro hha (And.intro hB5 hFH)
  have ST := lay_field HT2.out.1 HT2.out.2.1 HT2.out.2.2.1 hq2 HQq.out hB5 8 (by simp) (.pointer (some ⟨ph, 0, none⟩))
  obtain ⟨k6, k6f⟩ := (HT2.out.2.2.1.below hq2 hB5).at6 8 rfl
  obtain ⟨U3, hU3⟩ : ∃ U3, U3 = w5.setCell ⟨q, 8, none⟩ (.pointer (some ⟨ph, 0, none⟩)) := ⟨_, rfl⟩
  rw [← hU3] at ST
  have HT3 : Hid _ := ST
  clear hha hB5 hFH x0 x1 x2 x3 x4 x5 x6 x7 x8 x9 x10 ST hq2
  go_upto_region 7 with fail
  rw [← hU3]
  clear hU3 k6 k6f
  obtain ⟨x0, x1, x2, x3, x4, x5, x6, x7, x8, x9, x10⟩ := HT3.out.2.1
  simp only at x0 x1 x2 x3 x4 x5 x6 x7 x8 x9 x10
  have hq3 : q < U3.heap.size := by rw [HT3.out.2.2.2.1]; exact HT3.out.2.2.2.2.2
  obtain ⟨k6, k6f⟩ := HT3.out.2.2.1.at6 6 rfl
  have hPb : 2 ≤ P ∧ P ≤ 6 := by have := HK.out.bs1; omega
  have hPL : P * L ≤ 18 := Nat.le_trans (Nat.mul_le_mul (show P ≤ 6 by omega) (Nat.le_refl L)) (by omega)
  have hPLr : P * L * rr ≤ 144 := Nat.le_trans (Nat.mul_le_mul hPL (show rr ≤ 8 by omega)) (by omega)
  have hPL0 : 1 ≤ P * L * rr := Nat.mul_pos (Nat.mul_pos (by omega) (by omega)) (by omega)
  have hcast : ((P * L * rr : Nat) : Int) = (P : Int) * (L : Int) * (rr : Int) := by rw [Int.natCast_mul, Int.natCast_mul]
  have hcast2 : ((P * L : Nat) : Int) = (P : Int) * (L : Int) := Int.natCast_mul _ _
  have hm1 : IntKind.i64.wrap ((P : Int) * (L : Int)) = (P : Int) * (L : Int) := by rw [IntKind.wrap_i64]; omega
  have hm2 : IntKind.i64.wrap ((P : Int) * (L : Int) * (rr : Int)) = (P : Int) * (L : Int) * (rr : Int) := by rw [IntKind.wrap_i64]; omega
  have HR7 : Hid (∀ u, Below U3.heap.size U3 u → Calls Tryz.prog 39 #[.int .i64 (P : Nat), .int .i64 (L : Nat), .int .i64 ((P : Int) * (L : Int) * (rr : Int))] u fun e u' => ∃ pr FR, e = .returned (.pointer (some ⟨pr, 0, none⟩)) ∧ (K.RAt u' FR pr P L (P * L * rr) 0 0 (fun _ => []) ∧ Below U3.heap.size U3 u' ∧ ∀ k, FR k → U3.heap.size ≤ k) ∧ (u'.cell? ⟨q, 6, none⟩ = some (.slice (some ⟨pb, 0, none⟩) P cp) ∧ u'.cell? ⟨w.heap.size, 2, none⟩ = some (.int .i64 (L : Nat)) ∧ u'.cell? ⟨w.heap.size, 3, none⟩ = some (.int .i64 (rr : Nat))) ∧ u'.cell? ⟨q, 9, none⟩ = some (.pointer none) ∧ u'.frozen? ⟨q, 9, none⟩ = false) := fun u hu => by
    rw [← hcast]
    refine (K.r_new_good P L (P * L * rr) (by omega) (by omega) (by omega) u).mono ?_
    rintro e u' ⟨pr, FR, rfl, hra, hB, hF⟩
    have hB2 := later hu hB
    have hN2 := HT3.out.2.2.1.below hq3 hB2
    have hX2 := HT3.out.2.1.below hB2
    exact ⟨pr, FR, rfl, ⟨hra, hB2, fun k hk => by have := hF k hk; have := hu.size; omega⟩, ⟨(hN2.at6 6 rfl).1, hX2.c2, hX2.c3⟩, hN2.at6 9 rfl⟩
  have HKp : Hid (∀ (u : World) (y : Value), (u.cell? ⟨q, 6, none⟩ = some (.slice (some ⟨pb, 0, none⟩) P cp) ∧ u.cell? ⟨w.heap.size, 2, none⟩ = some (.int .i64 (L : Nat)) ∧ u.cell? ⟨w.heap.size, 3, none⟩ = some (.int .i64 (rr : Nat))) → (u.setCell ⟨q, 9, none⟩ y).cell? ⟨q, 6, none⟩ = some (.slice (some ⟨pb, 0, none⟩) P cp) ∧ (u.setCell ⟨q, 9, none⟩ y).cell? ⟨w.heap.size, 2, none⟩ = some (.int .i64 (L : Nat)) ∧ (u.setCell ⟨q, 9, none⟩ y).cell? ⟨w.heap.size, 3, none⟩ = some (.int .i64 (rr : Nat))) := fun u y hu => by
    have hne : ¬ w.heap.size = q := by have := HQq.out; omega
    have S1 : Sans (fun j => j = q) u (u.setCell ⟨q, 9, none⟩ y) := Sans.of_set _ _ _ rfl
    have hlt : w.heap.size < u.heap.size := cell_lt hu.2.1
    exact ⟨cell_set hu.1 (by omega), (S1.cell (p := ⟨w.heap.size, 2, none⟩) hlt hne).trans hu.2.1, (S1.cell (p := ⟨w.heap.size, 3, none⟩) hlt hne).trans hu.2.2⟩
  clear x0 x1 x4 x5 x6 x7 x8 x9 x10 hcast hcast2 hPL hPLr hPL0 k6f
  go_wp2_with fail
  go_region_held3 (fun w' => w'.cell? ⟨q, 6, none⟩ = some (.slice (some ⟨pb, 0, none⟩) P cp) ∧ w'.cell? ⟨w.heap.size, 2, none⟩ = some (.int .i64 (L : Nat)) ∧ w'.cell? ⟨w.heap.size, 3, none⟩ = some (.int .i64 (rr : Nat))) (first | exact CK1.out | exact HKp.out _ _ CK1.out | go_keep)
    (first
      | (go_at_call 39; refine (HR7.out _ (by first | exact (Below.refl _ _).drew | exact K.drewN_below _ 1 | exact Below.refl _ _)).mono ?_; rintro e w6 ⟨pr, FR, rfl, hr6, hc6, z9, z9f⟩; have HR6 : Hid _ := hr6; have CK1 : Hid (w6.cell? ⟨q, 6, none⟩ = some (.slice (some ⟨pb, 0, none⟩) P cp) ∧ w6.cell? ⟨w.heap.size, 2, none⟩ = some (.int .i64 (L : Nat)) ∧ w6.cell? ⟨w.heap.size, 3, none⟩ = some (.int .i64 (rr : Nat))) := hc6; clear hr6 hc6))
  have ST := lay_field HT3.out.1 HT3.out.2.1 HT3.out.2.2.1 hq3 HQq.out HR6.out.2.1 9 (by simp) (.pointer (some ⟨pr, 0, none⟩))
  obtain ⟨U4, hU4⟩ : ∃ U4, U4 = w6.setCell ⟨q, 9, none⟩ (.pointer (some ⟨pr, 0, none⟩)) := ⟨_, rfl⟩
  rw [← hU4] at ST ⊢
  have HT4 : Hid _ := ST
  clear x2 x3 k6 ST hq3 hU4 z9 z9f HR7 HKp CK1 hm1 hm2
  have hq4 : q < U4.heap.size := by rw [HT4.out.2.2.2.1]; exact HT4.out.2.2.2.2.2
  obtain ⟨k6, k6f⟩ := HT4.out.2.2.1.at6 6 rfl
  go_wp2_with fail
  refine (M.new_good P (by omega) U4).mono ?_
  rintro e w7 ⟨pa, ga, aa, rfl, hmd⟩
  have HM7 : Hid _ := hmd
  have hB7 := hmd.2.1
  have ST := lay_field HT4.out.1 HT4.out.2.1 HT4.out.2.2.1 hq4 HQq.out hB7 10 (by simp) (.pointer (some ⟨pa, 0, none⟩))
  clear k6 k6f
  obtain ⟨k6, k6f⟩ := (HT4.out.2.2.1.below hq4 hB7).at6 10 rfl
  obtain ⟨U5, hU5⟩ : ∃ U5, U5 = w7.setCell ⟨q, 10, none⟩ (.pointer (some ⟨pa, 0, none⟩)) := ⟨_, rfl⟩
  rw [← hU5] at ST
  have HT5 : Hid _ := ST
  clear hmd ST hq4 hB7
  go_upto_region 9 with fail
  rw [← hU5]
  clear hU5 k6 k6f
  have HE : Hid (NIn U5 (fun j => q ≤ j ∧ j < U5.heap.size) FH FR (newB q pb wb pa ga aa r) ph pr (cfgOf ⟨(n : Nat), (L : Nat), (rr : Nat), (qq : Nat), rounds, every, bag, start, ea, en, ec, wa, wn, wc, na, nn, nc⟩ es ws rs v) (st0 (cfgOf ⟨(n : Nat), (L : Nat), (rr : Nat), (qq : Nat), rounds, every, bag, start, ea, en, ec, wa, wn, wc, na, nn, nc⟩ es ws rs v) start.toNat) 0) := by
    subst hP
    obtain ⟨hcp, hpb, hpa⟩ := HP3.out
    obtain ⟨hwb, hws, hB4⟩ := HW4.out
    obtain ⟨hha, hB5, hFH⟩ := HH5.out
    obtain ⟨hra, hB6, hFR⟩ := HR6.out
    obtain ⟨har, hB7, hpa1, hga1, haa1⟩ := HM7.out
    have e1 := HT1.out.2.2.2.1
    have e2 := HT2.out.2.2.2.1
    have e3 := HT3.out.2.2.2.1
    have e4 := HT4.out.2.2.2.1
    have e5 := HT5.out.2.2.2.1
    have S5 := HT5.out.2.2.2.2.1
    have S4 := (HT4.out.2.2.2.2.1.then (Sans.of_below hB7)).then S5
    have S3 := (HT3.out.2.2.2.2.1.then (Sans.of_below hB6)).then S4
    have S2 := (HT2.out.2.2.2.2.1.then (Sans.of_below hB5)).then S3
    have S1 := (HT1.out.2.2.2.2.1.then (Sans.of_below hB4)).then S2
    have hVs := HV.out.2.1
    have s1 := HB3.out.size
    have s4 := hB4.size
    have s5 := hB5.size
    have s6 := hB6.size
    have s7 := hB7.size
    have hN := HT5.out.2.2.1
    have lwb : wb < w4.heap.size := hws.lt (by omega)
    exact asm (base := V.heap.size + 1) (kk := (Plan.bes es v).length) (z1 := w3.heap.size) (z2 := U2.heap.size) (z3 := U3.heap.size) (z4 := U4.heap.size) HK.out rfl rfl
      (hpa.keep S1 (fun j hj e => by omega)) hcp (hN.at6 0 rfl).1 (hN.at6 1 rfl).1 (hN.at6 2 rfl).1 (hN.at6 3 rfl).1 (hN.at6 4 rfl).1 (hN.at6 5 rfl).1 (hN.at6 5 rfl).2 (hN.at6 6 rfl).1 (hN.at6 7 rfl).1 (hN.at6 8 rfl).1 (hN.at6 9 rfl).1 (hN.at6 10 rfl).1
      (hws.sans S2 (by omega)) (hha.sans S3 (fun k hk e => by have := hFH k hk; omega)) (hra.sans S4 (fun k hk e => by have := hFR k hk; omega)) (har.sans S5 (by omega) (by omega) (by omega))
      (by have := HQq.out; omega) (by omega) (fun i hi => (hpa.good i hi).o3) hpb ⟨by omega, by omega⟩ ⟨by omega, by omega⟩ (fun k hk => ⟨hFH k hk, by have := hha.foot k hk; omega⟩) (fun k hk => ⟨hFR k hk, by have := hra.foot k hk; omega⟩) ⟨hpa1, hga1, haa1⟩
  go_wp2_with fail
  go_ret
  exact ⟨q, _, rfl, ⟨_, _, _, _, _, rfl, HE.out⟩, HT5.out.1, fun k hk => by have := HQq.out; have := hk.1; omega⟩
end Nd
end Go.Proofs.YtniicgbkeifnjaaGreatDoor
namespace Go.Proofs.YtniicgbkeifnjaaGreatDoor.Tree
set_option linter.unusedVariables false
set_option maxRecDepth 100000
def q_ends (ps : List Int) (v w : Nat) : Bool := decide ((path ps v w).length ≤ 6) && decide (0 < (path ps v w).length) && (path ps v w).getD 0 0 == (v : Int) && (path ps v w).getD ((path ps v w).length - 1) 0 == (w : Int) && ((path ps v w).all fun x => isNode ps x) && (path ps w v == (path ps v w).reverse) && (decide (v = w) || decide (2 ≤ (path ps v w).length))
theorem ends_all : ask2 q_ends = true := by decide +kernel
end Go.Proofs.YtniicgbkeifnjaaGreatDoor.Tree
namespace Go.Proofs.YtniicgbkeifnjaaGreatDoor
open Go.ChangeShapes Go.WideShapes Go.ChangeAt Go.RowKit
set_option linter.unusedVariables false
set_option maxRecDepth 100000
theorem step_append_p {w : World} {ops : Array Oper} {o : Oper} {a : Act} {K : Act → World → Prop} {Q : Exit → Act → World → Prop} {E : Prop} (hgd : o.guard = none) (s x : Operand) (t e : TypeId)
    (ho : o.op = .call { callee := .builtin .append, args := #[s, x], argTypes := #[t, t] }) (ht : Tryz.prog.underlying t = some (.slice e)) (hinfo : (Tryz.prog.info? e).map (fun i => (i.zero, i.size, i.bytes)) = some (some (.agg #[.int .i64 0, .int .i64 0]), 2, 16)) (base : Nat)
    (v : Value) (l : List (Int × Int)) (hs : a.eval s = v) (hown : w.ownsRow base e 2 v l.length (pcells l)) (hbase : base ≤ w.heap.size)
    (ad : Addr) (m c : Nat) (new : List (Int × Int)) (hx : a.eval x = .slice (some ad) m c) (h2 : Pr w (some ad) m new) (hm : l.length + m ≤ 8796093022208) (l3 : List (Int × Int)) (hl3 : l ++ new = l3)
    (h : ∀ v' w', w'.ownsRow base e 2 v' l3.length (pcells l3) → Below base w w' → K (a.put o.dst v') w') : if Region.wanted o (yielded ops a.tmps) = true then Oper.wp Tryz.prog o a w K Q else E := by
  have hw : Region.wanted o (yielded ops a.tmps) = true := by simp [Region.wanted, hgd]
  rw [if_pos hw]
  obtain ⟨i0, hi, hz0, hz1, hz2⟩ := info_parts hinfo
  have hl2 := h2.1
  refine wp_append_own w s x t ho base e i0 (.agg #[.int .i64 0, .int .i64 0]) 2 16 ht hi hz0 hz1 hz2 rfl (by decide) v l.length (pcells l) hs hown ad m c (pcells new) hx (by rw [pcells_len]; omega) ?_ (pcells_one new) (by unfold maxLen; omega) (by omega) hbase ?_
  · intro j u hu
    have hj : j < new.length * 2 := by
      have := (List.getElem?_eq_some_iff.1 hu).1
      rwa [pcells_len] at this
    have hp := pcells_at new (j / 2) (by omega)
    rcases h2.2.2 with h0 | ⟨b, off, e, hlt, hc⟩
    · omega
    · cases e
      have hcj := hc (j / 2) (by omega)
      rw [add_lit, ← hu]
      rcases Nat.mod_two_eq_zero_or_one j with e0 | e0
      · have ej : j = j / 2 * 2 := by omega
        have h3 := hcj.1.trans hp.1.symm
        rw [← ej] at h3
        exact h3
      · have ej : j = j / 2 * 2 + 1 := by omega
        have h3 := hcj.2.trans hp.2.symm
        rw [Nat.add_assoc, ← ej] at h3
        exact h3
  · intro v' w' hown' hg hnil
    rw [pcells_append, show l.length + m = (l ++ new).length by rw [List.length_append]; omega, hl3] at hown'
    exact h v' w' hown' ((Below.refl base w).grown hg hbase (fun k hk => (hown.lt k hk).1))
end Go.Proofs.YtniicgbkeifnjaaGreatDoor
