/-
  Contracts and plain facts that the walks lean on (RouteLandG, RefRouteD, RouteLandD, RouteLandE). Conditions: none but those that each states.
-/
import Derived.Test.YtniicgbkeifnjaaGreatDoorQ24
import Derived.Deep.DeepCutAuto
namespace Go.Proofs.YtniicgbkeifnjaaGreatDoor
open Go.ChangeShapes Go.WideShapes Go.ChangeAt Go.RowKit
set_option linter.unusedVariables false
set_option maxRecDepth 100000
namespace Route
def mix (bs l : List Int) (j : Nat) : List Int := (cutRow bs l).take j ++ l.drop j
theorem mix_zero (bs l : List Int) : mix bs l 0 = l := by simp [mix]
theorem mix_len (bs l : List Int) (j : Nat) : (mix bs l j).length = l.length := by
  unfold mix
  rw [List.length_append, List.length_take, List.length_drop, cutRow_len]
  omega
theorem mix_all (bs l : List Int) : mix bs l l.length = cutRow bs l := by
  unfold mix
  rw [List.take_of_length_le (by rw [cutRow_len]; omega), List.drop_length, List.append_nil]
theorem mix_at {bs l : List Int} {j : Nat} (h : j < l.length) : (mix bs l j).getD j 0 = l.getD j 0 := by
  unfold mix
  have h1 : ((cutRow bs l).take j).length = j := by rw [List.length_take, cutRow_len]; omega
  rw [List.getD_eq_getElem?_getD, List.getElem?_append_right (by omega), h1, Nat.sub_self, List.getElem?_drop, Nat.add_zero, List.getD_eq_getElem?_getD]
theorem mix_next {bs l : List Int} {j : Nat} (h : j < l.length) : (mix bs l j).set j (cutTo bs (l.getD j 0)) = mix bs l (j + 1) := by
  unfold mix
  have h1 : ((cutRow bs l).take j).length = j := by rw [List.length_take, cutRow_len]; omega
  have h2 : j < (cutRow bs l).length := by rw [cutRow_len]; exact h
  have h3 : l.drop j = l[j] :: l.drop (j + 1) := List.drop_eq_getElem_cons h
  rw [List.take_succ_eq_append_getElem h2, h3, List.set_append_right _ _ (by omega), h1, Nat.sub_self, List.set_cons_zero, List.append_assoc, List.singleton_append]
  congr 2
  have e := cutRow_at (l := bs) h
  rw [List.getD_eq_getElem?_getD, List.getElem?_eq_getElem h2, Option.getD_some] at e
  exact e.symm
theorem mix_yes {bs l : List Int} {j : Nat} (h : j < l.length) (hc : bs.contains (l.getD j 0) = true) : mix bs l (j + 1) = mix bs l j := by
  rw [← mix_next h]
  unfold cutTo
  rw [if_pos hc, ← mix_at (bs := bs) h, List.getD_eq_getElem?_getD, List.getElem?_eq_getElem (by rw [mix_len]; exact h), Option.getD_some, List.set_getElem_self]
theorem mix_no {bs l : List Int} {j : Nat} (h : j < l.length) (hc : bs.contains (l.getD j 0) = false) : (mix bs l j).set j (-1) = mix bs l (j + 1) := by
  rw [← mix_next h]
  unfold cutTo
  rw [if_neg (by rw [hc]; decide)]
end Route
theorem row_own2 {w : World} {N R m c : Nat} {l : List Int} (hO : w.ownsRow N 3 1 (.slice (some ⟨R, 0, none⟩) m c) m (zcells l)) (hl : l.length = m) {G base : Nat} (hG : G ≠ R) (hb : base ≤ N) : RowA w base (some G) (.slice (some ⟨R, 0, none⟩) m c) l := by
  subst hl
  obtain ⟨a, cap, e, hz, h1, h2, h3, h4⟩ := zr_of_owns hO
  simp only [Value.slice.injEq, true_and] at e
  obtain ⟨e1, e3⟩ := e
  subst e1 e3
  refine ⟨_, _, rfl, hz, h1, h2, h3, fun ad e => ?_⟩
  cases e
  exact ⟨Nat.le_trans hb (hO.lt R rfl).1, (hO.lt R rfl).2, fun e => hG (Option.some.inj e)⟩
theorem ways_start (w : World) (p : PV) (n : Nat) (hn : n ≤ 200) (X : World) (hX : (w.alloc p.obj).alloc (.cells (madeCells #[.slice none 0 0] n) 27) = X) : Bxd X w.heap.size p ∧ Below w.heap.size w X ∧ X.ownsRow (w.heap.size + 1) 27 1 (.slice (some ⟨w.heap.size + 1, 0, none⟩) n n) n (madeCells #[.slice none 0 0] n).toList ∧ X.heap.size = w.heap.size + 1 + 1 := by
  subst hX
  have h1 := made_rows (w.alloc p.obj) n hn
  have e1 : (w.alloc p.obj).heap.size = w.heap.size + 1 := by simp
  rw [e1] at h1
  exact ⟨(bxd_new w p).below (fresh _ _), later (fresh _ _) (fresh _ _), h1, by simp⟩
theorem Bxd.sans {F : Nat → Prop} {w w' : World} {b : Nat} {p : PV} (h : Bxd w b p) (k : Sans F w w') (hb : ¬ F b) : Bxd w' b p := by
  obtain ⟨c0, c1, c2, c3, c4, c5, c6, c7, c8, c9, c10⟩ := h
  have hl : b < w.heap.size := cell_lt c0
  exact ⟨(k.cell (p := ⟨b, 0, none⟩) hl hb).trans c0, (k.cell (p := ⟨b, 1, none⟩) hl hb).trans c1, (k.cell (p := ⟨b, 2, none⟩) hl hb).trans c2, (k.cell (p := ⟨b, 3, none⟩) hl hb).trans c3, (k.cell (p := ⟨b, 4, none⟩) hl hb).trans c4, (k.cell (p := ⟨b, 5, none⟩) hl hb).trans c5, (k.cell (p := ⟨b, 6, none⟩) hl hb).trans c6, (k.cell (p := ⟨b, 7, none⟩) hl hb).trans c7, (k.cell (p := ⟨b, 8, none⟩) hl hb).trans c8, (k.cell (p := ⟨b, 9, none⟩) hl hb).trans c9, (k.cell (p := ⟨b, 10, none⟩) hl hb).trans c10⟩
set_option maxHeartbeats 4000000 in
set_option maxRecDepth 100000 in
theorem ways_any {w : World} {p : PV} {es : List (Int × Int)} {ws : List Int} {rs : List (List Int)} {n : Nat} (h : PlN w p es ws rs) (hm : MayN p es rs n) :
    Calls Tryz.prog 88 #[p.val] w fun e w' => ∃ a c, e = .returned (.slice a n c) ∧ CutAt w' a es rs n ∧ Below w.heap.size w w' := by
  have HP : Hid (PlN w p es ws rs) := h
  have HM : Hid (MayN p es rs n) := hm
  have hn6 := hm.two
  have HSt : Hid _ := ways_start w p n (by omega)
  have hN := hm.nodes
  have hmk := run_make_row' (P := Tryz.prog) 29 27 (.slice none 0 0) 24 Tryz.underlying29 infoRR rfl .i64 .i64 n (by omega) (by omega)
  clear h hm
  obtain ⟨N0, lanes, room, queue, rounds, every, bag, start, ea, en, ec, wa, wn, wc, na, nn, nc⟩ := p
  simp only at hN
  subst hN
  obtain rfl : n = nn := by have h1 := HP.out.mr.1; have h2 := HM.out.rows; simp only at h1; omega
  simp only [PV.val, PV.obj] at HSt ⊢
  go_enter Tryz.func88, Tryz.ntmps88
  go_upto_region 2 with fail
  obtain ⟨hX, hB, hO, hsz⟩ := HSt.out _ rfl
  have HX : Hid _ := hX
  have HB : Hid _ := hB
  have HO : Hid _ := hO
  have HSz : Hid _ := hsz
  clear HSt hX hB hO hsz hmk
  generalize World.alloc _ _ = X at HX HB HO HSz ⊢
  obtain ⟨B, hBe⟩ : ∃ g, w.heap.size = g := ⟨_, rfl⟩
  have HBe : Hid (w.heap.size = B) := hBe
  rw [hBe] at HX HB HO HSz ⊢
  obtain ⟨G, hG⟩ : ∃ g, B + 1 = g := ⟨_, rfl⟩
  have HGe : Hid (B + 1 = G) := hG
  rw [hG] at HO HSz ⊢
  clear hBe hG
  go_wp2_with fail
  go_loopw [13] (fun i wr => ∃ (t : Nat) (xs : List Value), t ≤ n ∧ i = .int .i64 t ∧ wr.ownsRow G 27 1 (.slice (some ⟨G, 0, none⟩) n n) n xs ∧ (∀ i, i < t → RowA wr G (some G) (xs.getD i undef) ((Route.cut es rs).getD i [])) ∧ Sans (fun j => j = G) X wr) (fun i _ => n - (intOf i).toNat)
  case atStart => exact ⟨0, _, Nat.zero_le _, rfl, HO.out, fun i hi => by omega, Sans.refl _ _⟩
  case round =>
    obtain ⟨t, xs, ht, rfl, hO, hR, hS⟩ := hrel
    obtain ⟨wt, hwt⟩ : ∃ wt, wt = wr := ⟨_, rfl⟩
    subst hwt
    have HOw : Hid (wt.ownsRow G 27 1 (.slice (some ⟨G, 0, none⟩) n n) n xs) := hO
    have HR : Hid (∀ i, i < t → RowA wt G (some G) (xs.getD i undef) ((Route.cut es rs).getD i [])) := hR
    have HS : Hid (Sans (fun j => j = G) X wt) := hS
    have hxl := hO.1
    have hGlt := (hO.lt G rfl).2
    by_cases htn : t < n
    · have htI : (t : Int) < (n : Int) := by omega
      have hGB : B ≠ G := by have := HGe.out; omega
      have HBw : Hid (Below w.heap.size w wt) := by
        have hb := HB.out
        rw [← HBe.out] at hb
        exact hb.trans (hS.below (B := w.heap.size) hb.size (fun j e => by have := HGe.out; have := HBe.out; omega))
      have HXt : Hid (Bxd wt B _) := HX.out.sans hS hGB
      obtain ⟨nb, no, ra, rc, ena, ct, hzr, hlr, hrm, hrn⟩ := (HP.out.below HBw.out).mr.at (k := t) htn
      simp only at ena
      subst ena
      obtain ⟨l, hl⟩ : ∃ l, rs.getD t [] = l := ⟨_, rfl⟩
      have hln : l.length = n := by rw [← hl]; exact HM.out.row t htn
      rw [hl, hln] at ct hzr hlr
      have HLe : Hid (rs.getD t [] = l) := hl
      have HLn : Hid (l.length = n) := hln
      have HCl : Hid _ := zclone_any (c := rc) hzr (by omega) (fun e => by have := hrn e; omega)
      have h0 := hO.cellAt t (by omega)
      rw [List.getElem?_eq_getElem (by omega)] at h0
      obtain ⟨z0, hz0⟩ : ∃ z, xs[t] = z := ⟨_, rfl⟩
      rw [hz0] at h0
      have f0 := hO.frozenAt t
      have HZ0 : Hid (wt.cell? ⟨G, t, none⟩ = some z0 ∧ wt.frozen? ⟨G, t, none⟩ = false) := ⟨h0, f0⟩
      obtain ⟨x0, x1, x2, x3, x4, x5, x6, x7, x8, x9, x10⟩ := HXt.out
      simp only at x0 x1 x2 x3 x4 x5 x6 x7 x8 x9 x10
      clear hl hln hzr hlr hrm hrn hz0 h0 f0 hO hR hS
      go_wp2_with fail
      refine Calls.mono HCl.out ?_
      rintro e w1 ⟨v1, rfl, hO1, hB1⟩
      obtain ⟨a1, c1, rfl, hz1, _, _, _, ⟨_, hnil⟩ | ⟨R, rfl, hR1, hR2⟩⟩ := zr_of_owns hO1
      · exfalso
        have := HLn.out
        rw [hnil] at this
        simp at this
        omega
      rw [HLn.out] at hO1 ⊢
      have HO1 : Hid (w1.ownsRow wt.heap.size 3 1 (.slice (some ⟨R, 0, none⟩) n c1) n (zcells l)) := hO1
      have hGR : G ≠ R := by omega
      have k0 := (hB1.cell (p := ⟨G, t, none⟩) hGlt).trans HZ0.out.1
      have k1 := (hB1.frozen (p := ⟨G, t, none⟩) hGlt).trans HZ0.out.2
      have HOw1 : Hid (w1.ownsRow G 27 1 (.slice (some ⟨G, 0, none⟩) n n) n xs) := owns_below HOw.out hB1
      have HS1 : Hid (Sans (fun j => j = G) X w1) := HS.out.then (Sans.of_below hB1)
      have HSt1 : Hid (Sans (fun j => j = G) wt w1) := Sans.of_below hB1
      have HRs : Hid (wt.heap.size ≤ R ∧ R < w1.heap.size ∧ G ≠ R) := ⟨hR1, hR2, hGR⟩
      clear x0 x1 x2 x3 x4 x5 x6 x7 x8 x9 x10 ct hz1 hO1 hR1 hR2 hB1 HCl HXt
      go_upto_region 6 with fail
      have HS2 : Hid (Sans (fun j => j = G) X (w1.setCell ⟨G, t, none⟩ (.slice (some ⟨R, 0, none⟩) n c1))) := HS1.out.then (Sans.of_set _ _ _ rfl)
      have HSt2 : Hid (Sans (fun j => j = G) wt (w1.setCell ⟨G, t, none⟩ (.slice (some ⟨R, 0, none⟩) n c1))) := HSt1.out.then (Sans.of_set _ _ _ rfl)
      have HOw2 : Hid ((w1.setCell ⟨G, t, none⟩ (.slice (some ⟨R, 0, none⟩) n c1)).ownsRow G 27 1 (.slice (some ⟨G, 0, none⟩) n n) n (xs.set t (.slice (some ⟨R, 0, none⟩) n c1))) := (HOw1.out.stored t _).1
      have HO2 : Hid ((w1.setCell ⟨G, t, none⟩ (.slice (some ⟨R, 0, none⟩) n c1)).ownsRow wt.heap.size 3 1 (.slice (some ⟨R, 0, none⟩) n c1) n (zcells l)) := owns_s1 HO1.out (Sans.of_set (F := fun j => j = G) _ _ _ rfl) (fun j e => by simp only [Value.ownBlock, Option.some.injEq] at e; omega)
      have HR2 : Hid (R < (w1.setCell ⟨G, t, none⟩ (.slice (some ⟨R, 0, none⟩) n c1)).heap.size) := by show R < _; rw [World.size_setCell]; exact HRs.out.2.1
      clear k0 k1 HS1 HSt1 HOw1 HO1
      generalize World.setCell _ _ _ = w2 at HS2 HSt2 HOw2 HO2 HR2 ⊢
      have HX2 := HX.out.sans HS2.out hGB
      have HB2 : Hid (Below w.heap.size w w2) := by
        have hb := HB.out
        rw [← HBe.out] at hb
        exact hb.trans (HS2.out.below (B := w.heap.size) hb.size (fun j e => by have := HGe.out; have := HBe.out; omega))
      obtain ⟨x0, x1, x2, x3, x4, x5, x6, x7, x8, x9, x10⟩ := HX2
      simp only at x0 x1 x2 x3 x4 x5 x6 x7 x8 x9 x10
      have HBe2 : Hid _ := beside_raw (HP.out.below HB2.out).pl (t : Int)
      go_wp2_with fail
      refine Calls.mono HBe2.out ?_
      rintro e w3 ⟨u, rfl, hO3, hB3⟩
      obtain ⟨a3, c3, rfl, hz3, _, _, _, hg3⟩ := zr_of_owns hO3
      have hbl := Plan.bes_len es (t : Int)
      have hen := (HP.out.below HB2.out).pl.he.1
      have heb := (HP.out.below HB2.out).pl.eb
      simp only at hen heb
      obtain ⟨bs, hbs⟩ : ∃ bs, Plan.bes es (t : Int) = bs := ⟨_, rfl⟩
      rw [hbs] at hz3 hg3 hbl ⊢
      have HBs : Hid (Plan.bes es (t : Int) = bs) := hbs
      obtain ⟨bl, hbl2⟩ : ∃ bl, bs.length = bl := ⟨_, rfl⟩
      rw [hbl2] at hz3 hbl ⊢
      have hbl3 : bl ≤ 17592186044416 := by omega
      have HZ3 : Hid (Zr w3 a3 bl bs) := hz3
      have HG3 : Hid (∀ ad, a3 = some ad → ¬ ad.block = R) := fun ad e e2 => by
        rcases hg3 with ⟨h, _⟩ | ⟨g, h, h1, _⟩
        · rw [h] at e; cases e
        · rw [h] at e
          cases e
          have := HR2.out
          simp only at e2
          omega
      have HS3 : Hid (Sans (fun j => j = G) X w3) := HS2.out.then (Sans.of_below hB3)
      have HSt3 : Hid (Sans (fun j => j = G) wt w3) := HSt2.out.then (Sans.of_below hB3)
      have HOw3 : Hid (w3.ownsRow G 27 1 (.slice (some ⟨G, 0, none⟩) n n) n (xs.set t (.slice (some ⟨R, 0, none⟩) n c1))) := owns_below HOw2.out hB3
      have HO3 : Hid (w3.ownsRow wt.heap.size 3 1 (.slice (some ⟨R, 0, none⟩) n c1) n (zcells l)) := owns_below HO2.out hB3
      clear x0 x1 x2 x3 x4 x5 x6 x7 x8 x9 x10 hO3 hB3 hz3 hg3 hbs hbl2 hbl hen heb HBe2 HS2 HSt2 HOw2 HO2
      have c1t := HOw3.out.cellAt t (by omega)
      rw [List.getElem?_set_self (by omega)] at c1t
      have HC1 : Hid (w3.cell? ⟨G, t, none⟩ = some (.slice (some ⟨R, 0, none⟩) n c1)) := c1t
      go_wp2_with fail
      clear c1t
      go_loopw [33] (fun i wi => ∃ j : Nat, j ≤ n ∧ i = .int .i64 j ∧ Sans (fun k => k = R) w3 wi ∧ wi.ownsRow wt.heap.size 3 1 (.slice (some ⟨R, 0, none⟩) n c1) n (zcells (Route.mix bs l j))) (fun i _ => n - (intOf i).toNat)
      case atStart => exact ⟨0, Nat.zero_le _, rfl, Sans.refl _ _, by rw [Route.mix_zero]; exact HO3.out⟩
      case round =>
        obtain ⟨j, hj, rfl, hSj, hOj⟩ := hrel
        have HSj : Hid (Sans (fun k => k = R) w3 wr) := hSj
        have HOj : Hid (wr.ownsRow wt.heap.size 3 1 (.slice (some ⟨R, 0, none⟩) n c1) n (zcells (Route.mix bs l j))) := hOj
        have hml : (Route.mix bs l j).length = n := by rw [Route.mix_len]; exact HLn.out
        have hG3 : G < w3.heap.size := (HOw3.out.lt G rfl).2
        have cGt : wr.cell? ⟨G, t, none⟩ = some (.slice (some ⟨R, 0, none⟩) n c1) := (hSj.cell (p := ⟨G, t, none⟩) hG3 (by show ¬ G = R; exact HRs.out.2.2)).trans HC1.out
        by_cases hjn : j < n
        · have hjI : (j : Int) < (n : Int) := by omega
          have cR := hOj.cellAt j (by omega)
          rw [zcells_at (by omega)] at cR
          have hmx := Route.mix_at (bs := bs) (l := l) (j := j) (by have := HLn.out; omega)
          obtain ⟨y, hy⟩ : ∃ y, l.getD j 0 = y := ⟨_, rfl⟩
          rw [hmx, hy] at cR
          have HY : Hid (l.getD j 0 = y) := hy
          have fR := hOj.frozenAt j
          obtain ⟨b, hb⟩ : ∃ b, bs.contains y = b := ⟨_, rfl⟩
          have HBc : Hid (bs.contains y = b) := hb
          have HCo : Hid _ := zcontains_any (c := c3) (HZ3.out.sans hSj HG3.out) hbl3 y hb
          clear hy hb hmx hml hSj hOj hG3
          cases b with
          | true =>
            have HMx : Hid (Route.mix bs l (j + 1) = Route.mix bs l j) := Route.mix_yes (by have := HLn.out; omega) (by rw [HY.out]; exact HBc.out)
            go_wp2_with (go_at_call 146; refine Calls.mono HCo.out ?_; rintro e w' ⟨rfl, hq⟩; obtain rfl := hq.symm; clear hq)
            go_roundw
            case rel =>
              have R1 := HOj.out
              rw [← HMx.out] at R1
              first | exact ⟨j + 1, by omega, by go_num, HSj.out, R1⟩ | ((repeat apply Exists.intro); exact ⟨⟨j + 1, by omega, by go_num, HSj.out, R1⟩, rfl⟩)
            case measure => simp [intOf]; omega
          | false =>
            have HMx : Hid ((Route.mix bs l j).set j (-1) = Route.mix bs l (j + 1)) := Route.mix_no (by have := HLn.out; omega) (by rw [HY.out]; exact HBc.out)
            go_wp2_with (go_at_call 146; refine Calls.mono HCo.out ?_; rintro e w' ⟨rfl, hq⟩; obtain rfl := hq.symm; clear hq)
            have HR1 : Hid ((wr.setCell ⟨R, j, none⟩ (.int .i64 (-1))).ownsRow wt.heap.size 3 1 (.slice (some ⟨R, 0, none⟩) n c1) n (zcells (Route.mix bs l (j + 1)))) := by
              have h := (HOj.out.stored j (.int .i64 (-1))).1
              rw [zcells_set1, HMx.out] at h
              exact h
            have HR0 : Hid (Sans (fun k => k = R) w3 (wr.setCell ⟨R, j, none⟩ (.int .i64 (-1)))) := HSj.out.then (Sans.of_set _ _ _ rfl)
            go_roundw
            case rel => first | exact ⟨j + 1, by omega, by go_num, HR0.out, HR1.out⟩ | ((repeat apply Exists.intro); exact ⟨⟨j + 1, by omega, by go_num, HR0.out, HR1.out⟩, rfl⟩)
            case measure => simp [intOf]; omega
        · obtain rfl : j = n := by omega
          have HRow : Hid (RowA wr G (some G) (.slice (some ⟨R, 0, none⟩) j c1) ((Route.cut es rs).getD t [])) := by
            rw [Route.cut_at (by have := HM.out.rows; omega), HLe.out, HBs.out, ← Route.mix_all, HLn.out]
            exact row_own2 hOj hml HRs.out.2.2 (by omega)
          have HSw : Hid (Sans (fun k => k = G ∨ k = R) wt wr) := (HSt3.out.mono (fun _ e => .inl e)).then (HSj.out.mono (fun _ e => .inr e))
          have HOf : Hid (wr.ownsRow G 27 1 (.slice (some ⟨G, 0, none⟩) j j) j (xs.set t (.slice (some ⟨R, 0, none⟩) j c1))) := owns_s1 HOw3.out hSj (fun i e => by simp only [Value.ownBlock, Option.some.injEq] at e; have := HRs.out.2.2; omega)
          have HRf : Hid (∀ i, i < t + 1 → RowA wr G (some G) ((xs.set t (.slice (some ⟨R, 0, none⟩) j c1)).getD i undef) ((Route.cut es rs).getD i [])) := fun i hi => by
            by_cases e : i = t
            · subst e
              rw [getD_set_eq (by omega)]
              exact HRow.out
            · rw [getD_set_ne (by omega)]
              exact (HR.out i (by omega)).keep HSw.out (fun q h1 h2 h3 => by
                have h4 : q ≠ G := fun e => h3 (by rw [e])
                have := HRs.out.1
                omega)
          have HSX : Hid (Sans (fun k => k = G) X wr) := by
            have h := HS3.out
            have hRX : X.heap.size ≤ R := Nat.le_trans HS.out.size HRs.out.1
            exact h.trans HSj.out (fun k e => .inr (by omega))
          clear hSj hOj hml hG3 cGt
          go_wp2_with fail
          go_roundw
          case rel => first | exact ⟨t + 1, _, by omega, by go_num, HOf.out, HRf.out, HSX.out⟩ | ((repeat apply Exists.intro); exact ⟨⟨by omega, by go_num, HOf.out, HRf.out, HSX.out⟩, rfl⟩)
          case measure => simp [intOf]; omega
    · obtain rfl : t = n := by omega
      have HC : Hid (∃ a c, Ending.returned (Value.slice (some ⟨G, 0, none⟩) t t) = .returned (.slice a t c) ∧ CutAt wt a es rs t ∧ Below w.heap.size w wt) := by
        have hl : (Route.cut es rs).length = t := by rw [Route.cut_len]; exact HM.out.rows
        obtain ⟨a, cap, e, hmr, _⟩ := mr_of_rb (w := wt) (base := G) (v := .slice (some ⟨G, 0, none⟩) t t) (k := t) (rs := Route.cut es rs) (vs := xs) ⟨HOw.out, by omega, hl, HR.out⟩
        simp only [Value.slice.injEq, true_and] at e
        obtain ⟨rfl, rfl⟩ := e
        refine ⟨_, _, rfl, ⟨hmr, HM.out.two, HM.out.rows, HM.out.row, fun h => HM.out.in_bes h⟩, ?_⟩
        have hb := HB.out
        rw [HBe.out]
        exact hb.trans (HS.out.below (B := B) (by rw [← HBe.out]; rw [← HBe.out] at hb; exact hb.size) (fun j e => by have := HGe.out; omega))
      clear hO hR hS hGlt
      go_wp2_with fail
      go_ret
      exact HC.out
end Go.Proofs.YtniicgbkeifnjaaGreatDoor
namespace Go.Proofs.YtniicgbkeifnjaaGreatDoor
open Go.ChangeShapes Go.WideShapes Go.ChangeAt Go.RowKit
set_option linter.unusedVariables false
set_option maxRecDepth 100000
theorem zcells_set (S : List Int) (k : Nat) (z : Int) : (zcells S).set k (.int .i64 z) = zcells (S.set k z) := (List.map_set ..).symm
theorem zcells_zero (n : Nat) : (madeCells #[.int .i64 0] n).toList = zcells (List.replicate n 0) := by
  rw [toList_madeCells_one]
  unfold zcells
  rw [List.map_replicate]
namespace Route
end Route
end Go.Proofs.YtniicgbkeifnjaaGreatDoor
namespace Go.Proofs.YtniicgbkeifnjaaGreatDoor
open Go.ChangeShapes Go.WideShapes Go.ChangeAt Go.RowKit
set_option linter.unusedVariables false
set_option maxRecDepth 100000
structure Sea (w0 : World) (bm bw bf g n : Nat) (a : Option Addr) (c : Nat) (M : List Int) (w : World) : Prop where
  bel : Below w0.heap.size w0 w
  cm : w.cell? ⟨bm, 0, none⟩ = some (.slice (some ⟨g, 0, none⟩) n n)
  cw : w.cell? ⟨bw, 0, none⟩ = some (.slice a n c)
  cf : w.cell? ⟨bf, 0, none⟩ = some (.func (Fn.func 147) #[] #[.pointer (some ⟨bm, 0, none⟩), .pointer (some ⟨bw, 0, none⟩), .pointer (some ⟨bf, 0, none⟩)])
  own : w.ownsRow g 3 1 (.slice (some ⟨g, 0, none⟩) n n) n (zcells M)
structure Apart (w0 : World) (bm bw bf g : Nat) : Prop where
  hi : w0.heap.size ≤ g
  m : bm ≠ g
  w : bw ≠ g
  f : bf ≠ g
theorem Sea.below {w0 : World} {bm bw bf g n : Nat} {a : Option Addr} {c : Nat} {M : List Int} {w w' : World} (h : Sea w0 bm bw bf g n a c M w) (k : Below w.heap.size w w') : Sea w0 bm bw bf g n a c M w' :=
  ⟨later h.bel k, (k.cell (p := ⟨bm, 0, none⟩) (cell_lt h.cm)).trans h.cm, (k.cell (p := ⟨bw, 0, none⟩) (cell_lt h.cw)).trans h.cw, (k.cell (p := ⟨bf, 0, none⟩) (cell_lt h.cf)).trans h.cf, owns_below h.own k⟩
theorem Sea.store {w0 : World} {bm bw bf g n : Nat} {a : Option Addr} {c : Nat} {M : List Int} {w : World} (h : Sea w0 bm bw bf g n a c M w) (A : Apart w0 bm bw bf g) (k : Nat) (z : Int) : Sea w0 bm bw bf g n a c (M.set k z) (w.setCell ⟨g, k, none⟩ (.int .i64 z)) := by
  have s : Sans (fun j => j = g) w (w.setCell ⟨g, k, none⟩ (.int .i64 z)) := Sans.of_set _ _ _ rfl
  refine ⟨h.bel.trans (s.below (B := w0.heap.size) h.bel.size (fun j e => by have := A.hi; omega)), (s.cell (p := ⟨bm, 0, none⟩) (cell_lt h.cm) A.m).trans h.cm, (s.cell (p := ⟨bw, 0, none⟩) (cell_lt h.cw) A.w).trans h.cw, (s.cell (p := ⟨bf, 0, none⟩) (cell_lt h.cf) A.f).trans h.cf, ?_⟩
  have := (h.own.stored k (.int .i64 z)).1
  rw [zcells_set] at this
  exact this
def Met (W : List (List Int)) (g : Nat) (S : List Int → World → Prop) (M : List Int) (p : Nat) (w : World) (e : Ending) (w' : World) : Prop :=
  ∃ b : Bool, e = .returned (.bool b) ∧ (b = true → ∃ i, Route.Plus W i i) ∧ (b = false → ∃ M', Route.Step W M M' ∧ M'.getD p 0 = 2 ∧ S M' w') ∧ Sans (fun j => j = g) w w'
def MetAll (W : List (List Int)) (g : Nat) (S : List Int → World → Prop) (M l : List Int) (w w' : World) (no : Bool) : Prop :=
  (no = false → ∃ i, Route.Plus W i i) ∧ (no = true → ∃ M', Route.Step W M M' ∧ (∀ j, j < l.length → M'.getD (l.getD j 0).toNat 0 = 2) ∧ S M' w') ∧ Sans (fun j => j = g) w w'
def Searches (w0 : World) (bm bw bf g n : Nat) (a : Option Addr) (c : Nat) (W : List (List Int)) (u : Nat) : Prop :=
  ∀ (w : World) (M : List Int) (p : Nat), Sea w0 bm bw bf g n a c M w → Route.Dfs W M → p < n → (∀ i, M.getD i 0 = 1 → Route.Plus W i p) → Route.zs M ≤ u →
    Calls Tryz.prog 147 #[.int .i64 (p : Nat), .pointer (some ⟨bm, 0, none⟩), .pointer (some ⟨bw, 0, none⟩), .pointer (some ⟨bf, 0, none⟩)] w fun e w' => Met W g (Sea w0 bm bw bf g n a c) M p w e w'
set_option maxHeartbeats 4000000 in
set_option maxRecDepth 100000 in
theorem sidx_any {w0 : World} {bm bw bf g n : Nat} {a : Option Addr} {c : Nat} {W : List (List Int)} {u : Nat} (ih : Searches w0 bm bw bf g n a c W u) (hl : W.length = n) (hF : Route.Fit W)
    {p : Nat} (hp : p < n) {M : List Int} (hD : Route.Dfs W M) (hz : Route.zs M ≤ u) (hop : ∀ i, M.getD i 0 = 1 → Route.Plus W i p ∨ i = p) {w : World} (hs : Sea w0 bm bw bf g n a c M w) {ra : Option Addr} {rl rc : Nat} {l : List Int} (hl2 : W.getD p [] = l) (hr : Zr w0 ra rl l) (hn : rl ≤ 9223372036854775807) :
    Calls Tryz.prog 201 #[.slice ra rl rc, .func (Fn.func 147) #[] #[.pointer (some ⟨bm, 0, none⟩), .pointer (some ⟨bw, 0, none⟩), .pointer (some ⟨bf, 0, none⟩)]] w fun e w' => ∃ z : Int, e = .returned (.int .i64 z) ∧ MetAll W g (Sea w0 bm bw bf g n a c) M l w w' (decide (z < 0)) := by
  have IH : Hid (Searches w0 bm bw bf g n a c W u) := ih
  have HZ : Hid (Zr w0 ra rl l) := hr
  have HL : Hid (l.length = rl) := hr.1
  have HS : Hid (Sea w0 bm bw bf g n a c M w) := hs
  have HD : Hid (Route.Dfs W M) := hD
  have HO : Hid (∀ i, M.getD i 0 = 1 → Route.Plus W i p ∨ i = p) := hop
  have HE : Hid (∀ y ∈ l, 0 ≤ y ∧ y < (n : Int) ∧ Route.Edge W p y.toNat) := fun y hy => by
    have h1 := hF p (by rw [hl]; exact hp) y (by rw [hl2]; exact hy)
    rw [hl] at h1
    exact ⟨h1.1, h1.2, by rw [hl]; exact hp, by rw [hl2, Int.toNat_of_nonneg h1.1]; exact hy⟩
  have HU : Hid (Route.zs M ≤ u) := hz
  clear ih hr hs hD hop hF hl hl2 hz
  go_enter Tryz.func201, Tryz.ntmps201
  go_wp2_with fail
  go_loopw [5, 8] (fun _ i wr => ∃ k : Nat, k ≤ rl ∧ i = .int .i64 k ∧ ∃ M', Route.Step W M M' ∧ (∀ j, j < k → M'.getD (l.getD j 0).toNat 0 = 2) ∧ Sea w0 bm bw bf g n a c M' wr ∧ Sans (fun j => j = g) w wr) (fun _ i _ => rl - (intOf i).toNat)
  case atStart => exact ⟨0, Nat.zero_le _, rfl, M, Route.Step.refl HD.out, fun j hj => by omega, HS.out, Sans.refl _ _⟩
  case round =>
    obtain ⟨k, hk, rfl, M2, hSt, hno, hSe, hSa⟩ := hrel
    have HSt : Hid (Route.Step W M M2) := hSt
    have HN : Hid (∀ j, j < k → M2.getD (l.getD j 0).toNat 0 = 2) := hno
    have HSe : Hid (Sea w0 bm bw bf g n a c M2 wr) := hSe
    have HSa : Hid (Sans (fun j => j = g) w wr) := hSa
    clear hSt hno hSe hSa
    by_cases hkn : k < rl
    · obtain ⟨b, off, ha, hc⟩ := (HZ.out.below HSe.out.bel).at hkn
      subst ha
      have hy : 0 ≤ l.getD k 0 ∧ l.getD k 0 < (n : Int) ∧ Route.Edge W p (l.getD k 0).toNat := by
        refine HE.out _ ?_
        rw [List.getD_eq_getElem?_getD, List.getElem?_eq_getElem (show k < l.length by have := HL.out; omega)]
        exact List.getElem_mem _
      obtain ⟨y, hyq⟩ := Int.eq_ofNat_of_zero_le hy.1
      have HY : Hid (l.getD k 0 = (y : Int)) := hyq
      rw [hyq] at hc hy
      rw [Int.toNat_natCast] at hy
      clear hyq
      have HEd : Hid (Route.Edge W p y) := hy.2.2
      have HOp : Hid (∀ i, M2.getD i 0 = 1 → Route.Plus W i y) := fun i hi => by
        rcases HO.out i ((HSt.out.opn i).1 hi) with h | h
        · exact h.step HEd.out
        · rw [h]; exact Route.Plus.one HEd.out
      have HCall : Hid _ := IH.out wr M2 y HSe.out HSt.out.dfs (by omega) HOp.out (Nat.le_trans HSt.out.zeros HU.out)
      clear hy
      go_wp2_with (go_at_call 147; refine Calls.mono HCall.out ?_; rintro e w3 ⟨b, rfl, ht, hf, hs3⟩; have HT : Hid _ := ht; have HF : Hid _ := hf; have HS3 : Hid (Sans (fun j => j = g) w w3) := HSa.out.then hs3; clear ht hf hs3; cases b)
      · obtain ⟨M3, h3, h4, h5⟩ := HF.out (by trivial)
        have HR : Hid (Route.Step W M M3) := HSt.out.trans h3
        have HN3 : Hid (∀ j, j < k + 1 → M3.getD (l.getD j 0).toNat 0 = 2) := fun j hj => by
          by_cases e : j = k
          · subst e
            rw [HY.out, Int.toNat_natCast]
            exact h4
          · exact h3.shut _ (HN.out j (by omega))
        have HSe3 : Hid (Sea w0 bm bw bf g n a c M3 w3) := h5
        clear h3 h4 h5 HF HT
        go_wp2_with fail
        go_roundw
        case rel => first | exact ⟨k + 1, by omega, by go_num, M3, HR.out, HN3.out, HSe3.out, HS3.out⟩ | ((repeat apply Exists.intro); exact ⟨⟨k + 1, by omega, by go_num, M3, HR.out, HN3.out, HSe3.out, HS3.out⟩, rfl⟩)
        case measure => simp [intOf]; omega
      · have HTx : Hid (∃ i, Route.Plus W i i) := HT.out (by trivial)
        clear HF HT
        go_wp2_with fail
        go_ret
        exact ⟨(k : Int), rfl, fun _ => HTx.out, fun e => (by have := of_decide_eq_true e; omega), HS3.out⟩
    · obtain rfl : k = rl := by omega
      go_wp2_with fail
      go_ret
      exact ⟨-1, rfl, fun e => (by cases e), fun _ => ⟨M2, HSt.out, fun j hj => HN.out j (by have := HL.out; omega), HSe.out⟩, HSa.out⟩
set_option maxRecDepth 100000 in
theorem scont_any {w0 : World} {bm bw bf g n : Nat} {a : Option Addr} {c : Nat} {W : List (List Int)} {u : Nat} (ih : Searches w0 bm bw bf g n a c W u) (hl : W.length = n) (hF : Route.Fit W)
    {p : Nat} (hp : p < n) {M : List Int} (hD : Route.Dfs W M) (hz : Route.zs M ≤ u) (hop : ∀ i, M.getD i 0 = 1 → Route.Plus W i p ∨ i = p) {w : World} (hs : Sea w0 bm bw bf g n a c M w) {ra : Option Addr} {rl rc : Nat} {l : List Int} (hl2 : W.getD p [] = l) (hr : Zr w0 ra rl l) (hn : rl ≤ 9223372036854775807) :
    Calls Tryz.prog 148 #[.slice ra rl rc, .func (Fn.func 147) #[] #[.pointer (some ⟨bm, 0, none⟩), .pointer (some ⟨bw, 0, none⟩), .pointer (some ⟨bf, 0, none⟩)]] w fun e w' => ∃ b : Bool, e = .returned (.bool b) ∧ MetAll W g (Sea w0 bm bw bf g n a c) M l w w' (!b) := by
  have HI : Hid _ := sidx_any (rc := rc) ih hl hF hp hD hz hop hs hl2 hr hn
  clear ih hl hF hD hz hop hs hl2 hr
  go_enter Tryz.func148, Tryz.ntmps148
  go_wp2_with (go_at_call 201; refine Calls.mono HI.out ?_; rintro e w' ⟨z, rfl, hm⟩; have HM : Hid _ := hm; clear hm)
  go_ret
  refine ⟨_, rfl, ?_⟩
  have h := HM.out
  have e : (!decide (0 ≤ z)) = decide (z < 0) := by
    by_cases hz : z < 0
    · simp [hz]
    · simp [hz]; omega
  rw [e]
  exact h
end Go.Proofs.YtniicgbkeifnjaaGreatDoor
namespace Go.Proofs.YtniicgbkeifnjaaGreatDoor
open Go.ChangeShapes Go.WideShapes Go.ChangeAt Go.RowKit
set_option linter.unusedVariables false
set_option maxRecDepth 100000
set_option maxHeartbeats 4000000 in
set_option maxRecDepth 100000 in
theorem meets_step {w0 : World} {bm bw bf g n : Nat} {a : Option Addr} {c : Nat} {W : List (List Int)} (A : Apart w0 bm bw bf g) (hM : Mr w0 a n W) (hF : Route.Fit W) (hn : n ≤ 36) {u : Nat} (ih : ∀ v, v < u → Searches w0 bm bw bf g n a c W v) : Searches w0 bm bw bf g n a c W u := by
  intro w M p hs hD hp hop hz
  have hl := hM.1
  have hMl : M.length = n := by rw [hD.len, hl]
  have HS : Hid (Sea w0 bm bw bf g n a c M w) := hs
  have HD : Hid (Route.Dfs W M) := hD
  have HO : Hid (∀ i, M.getD i 0 = 1 → Route.Plus W i p) := hop
  have HM : Hid (Mr w0 a n W) := hM
  have HFt : Hid (Route.Fit W) := hF
  have HA : Hid (Apart w0 bm bw bf g) := A
  have HI : Hid (∀ v, v < u → Searches w0 bm bw bf g n a c W v) := ih
  have HW : Hid (W.length = n) := hl
  have HML : Hid (M.length = n) := hMl
  have hpI : (p : Int) < (n : Int) := by omega
  have q0 := hs.cm
  have q1 := hs.own.cellAt p (by omega)
  rw [zcells_at (by omega)] at q1
  have q2 := hs.own.frozenAt p
  have q3 := hs.cw
  have q4 := hs.cf
  rcases hD.val p with e0 | e0 | e0
  · rw [e0] at q1
    have HZ : Hid (M.getD p 0 = 0) := e0
    have hzo := Route.zs_open hD (by omega : p < W.length) e0
    obtain ⟨v, hv⟩ : ∃ v, u = v + 1 := ⟨u - 1, by omega⟩
    have HV : Hid (Searches w0 bm bw bf g n a c W v) := HI.out v (by omega)
    have HZv : Hid (Route.zs (M.set p 1) ≤ v) := by show _ ≤ _; omega
    clear e0 hs hD hop hM hF A ih hl hMl hz hzo hv HI
    go_enter Tryz.func147, Tryz.ntmps147
    go_upto_region 4 with fail
    have HS1 : Hid (Sea w0 bm bw bf g n a c (M.set p 1) (w.setCell ⟨g, p, none⟩ (.int .i64 1))) := HS.out.store HA.out p 1
    have HSa : Hid (Sans (fun j => j = g) w (w.setCell ⟨g, p, none⟩ (.int .i64 1))) := Sans.of_set _ _ _ rfl
    clear q0 q1 q2 q3 q4 HS
    generalize w.setCell _ _ = w1 at HS1 HSa ⊢
    have q0 := HS1.out.cm
    have q3 := HS1.out.cw
    have q4 := HS1.out.cf
    obtain ⟨rb, ro, ra, rc, ea, cr, _⟩ := (HM.out.below HS1.out.bel).at (k := p) (by omega)
    obtain ⟨_, _, ra', rc', ea', cr', hz', hlr, hrm, _⟩ := HM.out.at (k := p) (by omega)
    have e2 := ea.symm.trans ea'
    subst ea
    simp only [Option.some.injEq, Addr.mk.injEq, and_true] at e2
    obtain ⟨rfl, rfl⟩ := e2
    have hcr := ((later HS1.out.bel (Below.refl _ _)).cell (p := ⟨rb, ro + p, none⟩) (cell_lt cr')).trans cr'
    rw [cr] at hcr
    simp only [Option.some.injEq, Value.slice.injEq, true_and] at hcr
    obtain ⟨rfl, rfl⟩ := hcr
    obtain ⟨l, hl⟩ : ∃ l, W.getD p [] = l := ⟨_, rfl⟩
    rw [hl] at cr hz' hlr
    obtain ⟨rl, hrl⟩ : ∃ rl, l.length = rl := ⟨_, rfl⟩
    rw [hrl] at cr hz' hlr
    have HLl : Hid (W.getD p [] = l) := hl
    have HRl : Hid (l.length = rl) := hrl
    have hrl36 : rl ≤ 9223372036854775807 := by unfold maxLen at hrm; omega
    have hop1 : ∀ i, (M.set p 1).getD i 0 = 1 → Route.Plus W i p ∨ i = p := fun i hi => by
      rw [Route.set_get (by have := HML.out; omega)] at hi
      by_cases e : i = p
      · exact .inr e
      · rw [if_neg e] at hi
        exact .inl (HO.out i hi)
    have HCall : Hid (∀ wx, Below w1.heap.size w1 wx → _) := fun wx hx => scont_any (rc := rc) HV.out HW.out HFt.out hp (HD.out.open1 (by have := HW.out; omega) HZ.out) HZv.out hop1 (HS1.out.below hx) HLl.out hz' hrl36
    clear cr' hz' hlr hrm hl hrl hrl36 hop1
    go_region_with (go_at_call 148; refine Calls.mono (HCall.out _ ((Below.refl _ _).drew)) ?_; rintro e w2 ⟨b, rfl, hm2⟩; have HM2 : Hid _ := hm2; clear hm2)
    all_goals (
      clear q0 q3 q4 cr HCall
      cases b
      · obtain ⟨M2, hst, hall, hs2⟩ := HM2.out.2.1 rfl
        have HC : Hid (Route.Step W M (M2.set p 2) ∧ (M2.set p 2).getD p 0 = 2) := Route.Step.close HD.out (by have := HW.out; omega) HZ.out hst (fun k hk => by
          obtain ⟨_, hk⟩ := hk
          rw [HLl.out] at hk
          obtain ⟨j, hj, e⟩ := List.getElem_of_mem hk
          have e3 : l.getD j 0 = (k : Int) := by rw [List.getD_eq_getElem?_getD, List.getElem?_eq_getElem hj, Option.getD_some, e]
          have := hall j hj
          rw [e3, Int.toNat_natCast] at this
          exact this)
        have HS2 : Hid _ := hs2
        have HSa2 : Hid (Sans (fun j => j = g) w w2) := HSa.out.then ((Sans.drew _).then HM2.out.2.2)
        have hl2 : M2.length = n := by rw [hst.dfs.len]; exact HW.out
        have q0 := hs2.cm
        have q1 := hs2.own.cellAt p (by omega)
        rw [zcells_at (by omega)] at q1
        obtain ⟨y, hy⟩ : ∃ y, M2.getD p 0 = y := ⟨_, rfl⟩
        rw [hy] at q1
        have q2 := hs2.own.frozenAt p
        clear hst hall hs2 hy HM2
        go_wp2_with fail
        go_ret
        exact ⟨false, rfl, fun e => (by cases e), fun _ => ⟨_, HC.out.1, HC.out.2, HS2.out.store HA.out p 2⟩, HSa2.out.then (Sans.of_set _ _ _ rfl)⟩
      · have HR : Hid (∃ i, Route.Plus W i i) := HM2.out.1 rfl
        have HSa2 : Hid (Sans (fun j => j = g) w w2) := HSa.out.then ((Sans.drew _).then HM2.out.2.2)
        clear HM2
        go_wp2_with fail
        go_ret
        exact ⟨true, rfl, fun _ => HR.out, fun e => (by cases e), HSa2.out⟩)
  · rw [e0] at q1
    have HR : Hid (∃ i, Route.Plus W i i) := ⟨p, HO.out p e0⟩
    clear e0 hs hD hop hM hF A ih hl hMl hz
    go_enter Tryz.func147, Tryz.ntmps147
    go_wp2_with fail
    go_ret
    exact ⟨true, rfl, fun _ => HR.out, fun e => (by cases e), Sans.refl _ _⟩
  · rw [e0] at q1
    have HR : Hid (M.getD p 0 = 2) := e0
    clear e0 hs hD hop hM hF A ih hl hMl hz
    go_enter Tryz.func147, Tryz.ntmps147
    go_wp2_with fail
    go_ret
    exact ⟨false, rfl, fun e => (by cases e), fun _ => ⟨M, Route.Step.refl HD.out, HR.out, HS.out⟩, Sans.refl _ _⟩
theorem searches_all {w0 : World} {bm bw bf g n : Nat} {a : Option Addr} {c : Nat} {W : List (List Int)} (A : Apart w0 bm bw bf g) (hM : Mr w0 a n W) (hF : Route.Fit W) (hn : n ≤ 36) (u : Nat) : Searches w0 bm bw bf g n a c W u := by
  induction u using Nat.strongRecOn with
  | ind u ih => exact meets_step A hM hF hn ih
end Go.Proofs.YtniicgbkeifnjaaGreatDoor
