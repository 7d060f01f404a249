/-
  Contracts and plain facts that the walks lean on (RouteLandH, RouteLandI, NodeO, NodeA). Conditions: none but those that each states.
-/
import Derived.Test.YtniicgbkeifnjaaGreatDoorQ29
import Derived.Test.YtniicgbkeifnjaaGreatDoorQ18
namespace Go.Proofs.YtniicgbkeifnjaaGreatDoor
open Go.ChangeShapes Go.WideShapes Go.ChangeAt Go.RowKit
set_option linter.unusedVariables false
set_option maxRecDepth 100000
theorem pcheck_is {w : World} {p : PV} {es : List (Int × Int)} {ws : List Int} {ns : List Nat} (h : Pl w p es ws ns) {b : Bool} (hb : Plan.may p.num es ws ns = b) :
    Calls Tryz.prog 86 #[p.val] w fun e w' => e = .returned (.int .u16 (Plan.errno b)) ∧ Below w.heap.size w w' := by
  subst hb
  exact check_any h
theorem rowA_owns {w : World} {N G : Nat} {v : Value} {l : List Int} (hO : w.ownsRow N 3 1 v l.length (zcells l)) (hG : G < N) : RowA w G (some G) v l := by
  obtain ⟨a, cap, rfl, hz, h1, h2, h3, h4⟩ := zr_of_owns hO
  refine ⟨_, _, rfl, hz, h1, h2, h3, fun ad e => ?_⟩
  rcases h4 with ⟨h, _⟩ | ⟨g, h, h5, h6⟩
  · rw [h] at e; cases e
  · rw [h] at e
    cases e
    exact ⟨by show G ≤ g; omega, h6, fun e => by have := Option.some.inj e; simp only at this; omega⟩
set_option maxHeartbeats 4000000 in
set_option maxRecDepth 100000 in
theorem waits_any {w : World} {p : PV} {es : List (Int × Int)} {ws : List Int} {rs : List (List Int)} (h : PlN w p es ws rs) {b : Bool} (hb : Plan.may p.num es ws (rs.map List.length) = b) :
    Calls Tryz.prog 90 #[p.val] w fun e w' => ∃ a c, e = .returned (.slice a (Route.waitsOf b p.nodes es rs).length c) ∧ Mr w' a (Route.waitsOf b p.nodes es rs).length (Route.waitsOf b p.nodes es rs) ∧ Below w.heap.size w w' := by
  have HX : Hid (Bxd (w.alloc p.obj) w.heap.size p) := bxd_new w p
  have HPb : Hid (PlN (w.alloc p.obj) p es ws rs) := h.below (fresh _ _)
  have HW : Hid (Below w.heap.size w (w.alloc p.obj)) := fresh _ _
  have HMb : Hid (Plan.may p.num es ws (rs.map List.length) = b) := hb
  clear h
  obtain ⟨x0, x1, x2, x3, x4, x5, x6, x7, x8, x9, x10⟩ := HX.out
  simp only [PV.obj] at HX HPb HW x0 x1 x2 x3 x4 x5 x6 x7 x8 x9 x10
  cases b with
  | false =>
    clear hb
    unfold PV.val
    go_enter Tryz.func90, Tryz.ntmps90
    go_wp2_with fail
    refine (pcheck_is HPb.out.pl HMb.out).mono ?_
    rintro e w1 ⟨rfl, hB1⟩
    have HB1 : Hid (Below w.heap.size w w1) := later HW.out hB1
    have ee : Plan.errno false = 120 := rfl
    rw [ee]
    clear hB1 x0 x1 x2 x3 x4 x5 x6 x7 x8 x9 x10 ee
    go_wp2_with fail
    go_ret
    have he : Route.waitsOf false p.nodes es rs = [] := rfl
    rw [he]
    exact ⟨none, 0, rfl, ⟨rfl, by unfold maxLen; simp, .inl rfl⟩, HB1.out⟩
  | true =>
    obtain ⟨n, hm⟩ := may_n hb
    have HM : Hid (MayN p es rs n) := hm
    have hN := hm.nodes
    have hn6 := hm.two
    obtain ⟨l, hl⟩ : ∃ l, Plan.hops p.nodes es = l := ⟨_, rfl⟩
    have HLi : Hid (∀ e ∈ l, (0 ≤ e.1 ∧ e.1 < (n : Int)) ∧ (0 ≤ e.2 ∧ e.2 < (n : Int))) := by
      show ∀ _, _
      rw [← hl, hN]
      exact fun e he => hops_in hm he
    have hl36 : l.length ≤ 36 := by rw [← hl, hN]; exact hops_few es hn6.2
    have HWo : Hid (Route.waitsOf true p.nodes es rs = Route.rowsOf n rs l) := by
      show _ = _
      unfold Route.waitsOf
      rw [if_pos rfl, hl, hN, Int.toNat_natCast]
    have HL : Hid (Plan.hops p.nodes es = l) := hl
    rw [HWo.out]
    clear hb hm hl hN
    unfold PV.val
    go_enter Tryz.func90, Tryz.ntmps90
    go_wp2_with fail
    refine (pcheck_is HPb.out.pl HMb.out).mono ?_
    rintro e w1 ⟨rfl, hB1⟩
    have HB1 : Hid (Below w.heap.size w w1) := later HW.out hB1
    have HX1 : Hid (Bxd w1 w.heap.size p) := HX.out.below hB1
    have HP1 : Hid (PlN w1 p es ws rs) := HPb.out.below hB1
    have ee : Plan.errno true = 0 := rfl
    rw [ee]
    clear hB1 x0 x1 x2 x3 x4 x5 x6 x7 x8 x9 x10 ee
    obtain ⟨x0, x1, x2, x3, x4, x5, x6, x7, x8, x9, x10⟩ := HX1.out
    go_wp2_with fail
    refine (hops_own HP1.out.pl).mono ?_
    rintro e w2 ⟨u, rfl, hO2, hB2⟩
    rw [HL.out] at hO2
    obtain ⟨ha, hcap, rfl, hpr, _⟩ := pr_of_owns hO2
    obtain ⟨m, hLl⟩ : ∃ m, l.length = m := ⟨_, rfl⟩
    have hrl : (Route.rowsOf n rs l).length = m := by rw [Route.rowsOf_len]; exact hLl
    rw [hLl] at hpr hl36 ⊢
    have HLl : Hid (l.length = m) := hLl
    have HRl : Hid ((Route.rowsOf n rs l).length = m) := hrl
    have HPr2 : Hid (Pr w2 ha m l) := hpr
    have HB2 : Hid (Below w.heap.size w w2) := later HB1.out hB2
    have HX2 : Hid (Bxd w2 w.heap.size p) := HX1.out.below hB2
    have HP2 : Hid (PlN w2 p es ws rs) := HP1.out.below hB2
    have hg : w.heap.size < w2.heap.size := cell_lt HX2.out.c0
    have hmk := run_make_row' (P := Tryz.prog) 29 27 (.slice none 0 0) 24 Tryz.underlying29 infoRR rfl .i64 .i64 m (by omega) (by omega)
    have HM0 : Hid ((w2.alloc (.cells (madeCells #[.slice none 0 0] m) 27)).ownsRow w2.heap.size 27 1 (.slice (some ⟨w2.heap.size, 0, none⟩) m m) m (madeCells #[.slice none 0 0] m).toList) := made_rows w2 m (by omega)
    have HF0 : Hid (Below w2.heap.size w2 (w2.alloc (.cells (madeCells #[.slice none 0 0] m) 27))) := fresh _ _
    clear hB2 hO2 hpr hLl hrl x0 x1 x2 x3 x4 x5 x6 x7 x8 x9 x10 HB1 HX1 HP1
    go_wp2_with fail
    clear hmk
    generalize w2.alloc _ = X at HM0 HF0 ⊢
    obtain ⟨G, hG⟩ : ∃ G, w2.heap.size = G := ⟨_, rfl⟩
    have HG : Hid (w2.heap.size = G) := hG
    rw [hG] at HM0 HF0 hg ⊢
    have HXX : Hid (Bxd X w.heap.size p) := HX2.out.below (by rw [hG]; exact HF0.out)
    clear hG
    go_loopw [17] (fun i wr => ∃ (t : Nat) (xs : List Value), t ≤ m ∧ i = .int .i64 t ∧ wr.ownsRow G 27 1 (.slice (some ⟨G, 0, none⟩) m m) m xs ∧ (∀ i, i < t → RowA wr G (some G) (xs.getD i undef) ((Route.rowsOf n rs l).getD i [])) ∧ Sans (fun j => j = G) X wr) (fun i _ => m - (intOf i).toNat)
    case atStart => exact ⟨0, _, Nat.zero_le _, rfl, HM0.out, fun i hi => by omega, Sans.refl _ _⟩
    case round =>
      obtain ⟨t, xs, ht, rfl, hO, hR, hS⟩ := hrel
      obtain ⟨wt, hwt⟩ : ∃ wt, wt = wr := ⟨_, rfl⟩
      subst hwt
      have HOw : Hid (wt.ownsRow G 27 1 (.slice (some ⟨G, 0, none⟩) m m) m xs) := hO
      have HR : Hid (∀ i, i < t → RowA wt G (some G) (xs.getD i undef) ((Route.rowsOf n rs l).getD i [])) := hR
      have HS : Hid (Sans (fun j => j = G) X wt) := hS
      have hxl := hO.1
      have hGlt := (hO.lt G rfl).2
      have HBe : Hid (Below w2.heap.size w2 wt) := by
        have hb := HF0.out
        rw [← HG.out] at hb
        exact hb.trans (hS.below (B := w2.heap.size) hb.size (fun j e => by have := HG.out; omega))
      by_cases htm : t < m
      · have htI : (t : Int) < (m : Int) := by omega
        have HXt : Hid (Bxd wt w.heap.size p) := HXX.out.sans hS (by omega)
        obtain ⟨hb, ho, eh, ch1, ch2⟩ := (HPr2.out.below HBe.out).at htm
        subst eh
        have hin := HLi.out (l.getD t (0, 0)) (by
          rw [List.getD_eq_getElem?_getD, List.getElem?_eq_getElem (show t < l.length by have := HLl.out; omega)]
          exact List.getElem_mem _)
        obtain ⟨a1, hba1⟩ : ∃ a, (l.getD t (0, 0)).1 = a := ⟨_, rfl⟩
        obtain ⟨a2, hba2⟩ : ∃ a, (l.getD t (0, 0)).2 = a := ⟨_, rfl⟩
        have HAt : Hid (l.getD t (0, 0) = (a1, a2)) := by show _ = _; rw [← hba1, ← hba2]
        rw [hba1] at ch1 hin
        rw [hba2] at ch2 hin
        have HRow : Hid (Route.rowTo n rs l (a1, a2) m = (Route.rowsOf n rs l).getD t []) := by
          show _ = _
          rw [Route.rowsOf_at (by have := HLl.out; omega), ← Route.rowTo_all, HLl.out, HAt.out]
        have HBx2 : Hid _ := box_two wt a1 a2
        have h0 := hO.cellAt t (by omega)
        rw [List.getElem?_eq_getElem (by omega)] at h0
        obtain ⟨z0, hz0⟩ : ∃ z, xs[t] = z := ⟨_, rfl⟩
        rw [hz0] at h0
        have f0 := hO.frozenAt t
        have HZ0 : Hid (wt.cell? ⟨G, t, none⟩ = some z0 ∧ wt.frozen? ⟨G, t, none⟩ = false) := ⟨h0, f0⟩
        clear hba1 hba2 hz0 h0 f0 hO hR hS
        go_upto_region 8 with fail
        obtain ⟨hB3, cb1, cb2, hsz3⟩ := HBx2.out _ rfl
        have HB3 : Hid _ := hB3
        clear HBx2 ch1 ch2 hsz3
        generalize wt.alloc _ = w3 at HB3 hB3 cb1 cb2 ⊢
        have x10 := (HXt.out.below hB3).c10
        obtain ⟨g3, hg3⟩ : ∃ g, wt.heap.size = g := ⟨_, rfl⟩
        have HG3 : Hid (wt.heap.size = g3) := hg3
        rw [hg3] at hB3 cb1 cb2 ⊢
        have HCall : Hid _ := behind_any (c := hcap) ((HP2.out.below HBe.out).below HB3.out) HM.out ((HPr2.out.below HBe.out).below HB3.out) hl36 a1 a2 hin.1 hin.2
        clear hB3 hg3
        go_wp2_with fail
        refine Calls.mono HCall.out ?_
        rintro e w4 ⟨v4, rfl, hO4, hB4⟩
        have hRA := rowA_owns (G := G) hO4 (by have := HB3.out.size; omega)
        obtain ⟨a4, c4, rfl, _⟩ := zr_of_owns hO4
        obtain ⟨r4, hr4⟩ : ∃ r4, Route.rowTo n rs l (a1, a2) m = r4 := ⟨_, rfl⟩
        rw [hr4] at hRA ⊢
        have HR4 : Hid (Route.rowTo n rs l (a1, a2) m = r4) := hr4
        obtain ⟨n4, hn4⟩ : ∃ n4, r4.length = n4 := ⟨_, rfl⟩
        rw [hn4] at hRA ⊢
        have HRA : Hid (RowA w4 G (some G) (.slice a4 n4 c4) r4) := hRA
        have HB4 : Hid (Below wt.heap.size wt w4) := later HB3.out hB4
        have k0 := (HB4.out.cell (p := ⟨G, t, none⟩) hGlt).trans HZ0.out.1
        have k1 := (HB4.out.frozen (p := ⟨G, t, none⟩) hGlt).trans HZ0.out.2
        clear hO4 hB4 hRA hr4 hn4 cb1 cb2 x10 HCall
        go_wp2_with fail
        have HS5 : Hid (Sans (fun j => j = G) wt (w4.setCell ⟨G, t, none⟩ (.slice a4 n4 c4))) := (Sans.of_below HB4.out).then (Sans.of_set _ _ _ rfl)
        have HO5 : Hid ((w4.setCell ⟨G, t, none⟩ (.slice a4 n4 c4)).ownsRow G 27 1 (.slice (some ⟨G, 0, none⟩) m m) m (xs.set t (.slice a4 n4 c4))) := ((owns_below HOw.out HB4.out).stored t _).1
        have HRf : Hid (∀ i, i < t + 1 → RowA (w4.setCell ⟨G, t, none⟩ (.slice a4 n4 c4)) G (some G) ((xs.set t (.slice a4 n4 c4)).getD i undef) ((Route.rowsOf n rs l).getD i [])) := fun i hi => by
          by_cases e : i = t
          · subst e
            rw [getD_set_eq (by omega), ← HRow.out, HR4.out]
            exact HRA.out.keep (Sans.of_set (F := fun j => j = G) _ _ _ rfl) (fun q h1 h2 h3 => fun e => h3 (by rw [e]))
          · rw [getD_set_ne (by omega)]
            exact (HR.out i (by omega)).keep HS5.out (fun q h1 h2 h3 => fun e => h3 (by rw [e]))
        have HSX : Hid (Sans (fun j => j = G) X (w4.setCell ⟨G, t, none⟩ (.slice a4 n4 c4))) := HS.out.then HS5.out
        go_roundw
        case rel => first | exact ⟨t + 1, _, by omega, by go_num, HO5.out, HRf.out, HSX.out⟩ | ((repeat apply Exists.intro); exact ⟨⟨by omega, by go_num, HO5.out, HRf.out, HSX.out⟩, rfl⟩)
        case measure => simp [intOf]; omega
      · obtain rfl : t = m := by omega
        have HC : Hid (∃ a c, Ending.returned (Value.slice (some ⟨G, 0, none⟩) t t) = .returned (.slice a t c) ∧ Mr wt a t (Route.rowsOf n rs l) ∧ Below w.heap.size w wt) := by
          obtain ⟨a, cap, e, hmr, _⟩ := mr_of_rb (w := wt) (base := G) (v := .slice (some ⟨G, 0, none⟩) t t) (k := t) (rs := Route.rowsOf n rs l) (vs := xs) ⟨HOw.out, by omega, HRl.out, HR.out⟩
          simp only [Value.slice.injEq, true_and] at e
          obtain ⟨rfl, rfl⟩ := e
          exact ⟨_, _, rfl, hmr, later HB2.out HBe.out⟩
        clear hO hR hS hGlt
        go_wp2_with fail
        go_ret
        rw [HRl.out]
        exact HC.out
end Go.Proofs.YtniicgbkeifnjaaGreatDoor
namespace Go.Proofs.YtniicgbkeifnjaaGreatDoor
open Go.ChangeShapes Go.WideShapes Go.ChangeAt Go.RowKit
set_option linter.unusedVariables false
set_option maxRecDepth 100000
set_option maxHeartbeats 4000000 in
set_option maxRecDepth 100000 in
theorem rcheckland_any {w : World} {p : PV} {es : List (Int × Int)} {ws : List Int} {rs : List (List Int)} (h : PlN w p es ws rs) {b : Bool} (hb : Plan.may p.num es ws (rs.map List.length) = b) :
    Calls Tryz.prog 35 #[p.val] w fun e w' => ∃ z, e = .returned (.int .u16 z) ∧ Route.CheckIs b p.nodes es rs z ∧ Below w.heap.size w w' := by
  have HX : Hid (Bxd (w.alloc p.obj) w.heap.size p) := bxd_new w p
  have HPb : Hid (PlN (w.alloc p.obj) p es ws rs) := h.below (fresh _ _)
  have HW : Hid (Below w.heap.size w (w.alloc p.obj)) := fresh _ _
  have HMb : Hid (Plan.may p.num es ws (rs.map List.length) = b) := hb
  clear h
  obtain ⟨x0, x1, x2, x3, x4, x5, x6, x7, x8, x9, x10⟩ := HX.out
  simp only [PV.obj] at HX HPb HW x0 x1 x2 x3 x4 x5 x6 x7 x8 x9 x10
  cases b with
  | false =>
    clear hb
    unfold PV.val
    go_enter Tryz.func35, Tryz.ntmps35
    go_wp2_with fail
    refine (pcheck_is HPb.out.pl HMb.out).mono ?_
    rintro e w1 ⟨rfl, hB1⟩
    have HB1 : Hid (Below w.heap.size w w1) := later HW.out hB1
    have ee : Plan.errno false = 120 := rfl
    rw [ee]
    clear hB1 x0 x1 x2 x3 x4 x5 x6 x7 x8 x9 x10 ee
    go_wp2_with fail
    go_ret
    exact ⟨120, rfl, .inl ⟨rfl, rfl⟩, HB1.out⟩
  | true =>
    obtain ⟨n, hm⟩ := may_n hb
    have HM : Hid (MayN p es rs n) := hm
    have HN : Hid (p.nodes = (n : Int)) := hm.nodes
    have HF36 : Hid ((Route.rowsOf n rs (Plan.hops p.nodes es)).length ≤ 36) := by show _ ≤ _; rw [Route.rowsOf_len, hm.nodes]; exact hops_few es hm.two.2
    have HWo : Hid (Route.waitsOf true p.nodes es rs = Route.rowsOf n rs (Plan.hops p.nodes es)) := by
      show _ = _
      unfold Route.waitsOf
      rw [if_pos rfl, hm.nodes, Int.toNat_natCast]
    clear hb hm
    unfold PV.val
    go_enter Tryz.func35, Tryz.ntmps35
    go_wp2_with fail
    refine (pcheck_is HPb.out.pl HMb.out).mono ?_
    rintro e w1 ⟨rfl, hB1⟩
    have HB1 : Hid (Below w.heap.size w w1) := later HW.out hB1
    have HX1 : Hid (Bxd w1 w.heap.size p) := HX.out.below hB1
    have HP1 : Hid (PlN w1 p es ws rs) := HPb.out.below hB1
    have ee : Plan.errno true = 0 := rfl
    rw [ee]
    clear hB1 x0 x1 x2 x3 x4 x5 x6 x7 x8 x9 x10 ee
    obtain ⟨x0, x1, x2, x3, x4, x5, x6, x7, x8, x9, x10⟩ := HX1.out
    go_wp2_with fail
    refine (ways_any HP1.out HM.out).mono ?_
    rintro e w2 ⟨a2, c2, rfl, hC2, hB2⟩
    have HB2 : Hid (Below w.heap.size w w2) := later HB1.out hB2
    have HX2 : Hid (Bxd w2 w.heap.size p) := HX1.out.below hB2
    have HP2 : Hid (PlN w2 p es ws rs) := HP1.out.below hB2
    have HC2 : Hid _ := hC2
    clear hB2 hC2 x0 x1 x2 x3 x4 x5 x6 x7 x8 x9 x10
    go_wp2_with fail
    refine (allcome_any HC2.out).mono ?_
    rintro e w3 ⟨b3, rfl, ht3, hf3, hB3⟩
    have HT3 : Hid _ := ht3
    have HF3 : Hid _ := hf3
    have HB3 : Hid (Below w.heap.size w w3) := later HB2.out hB3
    have HX3 : Hid (Bxd w3 w.heap.size p) := HX2.out.below hB3
    have HP3 : Hid (PlN w3 p es ws rs) := HP2.out.below hB3
    clear hB3 ht3 hf3 HC2
    cases b3 with
    | false =>
      have HR : Hid (Route.CheckIs true p.nodes es rs 140) := by
        obtain ⟨v, hv, u, hu, hg⟩ := HF3.out rfl
        refine .inr (.inl ⟨rfl, .inl ?_, rfl⟩)
        have h := Route.not_all_come hv hu hg
        rw [HN.out]
        exact h
      clear HT3 HF3
      go_wp2_with fail
      go_ret
      exact ⟨140, rfl, HR.out, HB3.out⟩
    | true =>
      have HAC : Hid (Route.come es rs n) := HT3.out rfl
      clear HT3 HF3
      obtain ⟨x0, x1, x2, x3, x4, x5, x6, x7, x8, x9, x10⟩ := HX3.out
      go_wp2_with fail
      refine (waits_any HP3.out HMb.out).mono ?_
      rintro e w4 ⟨a4, c4, rfl, hmr4, hB4⟩
      rw [HWo.out] at hmr4 ⊢
      obtain ⟨W, hW⟩ : ∃ W, Route.rowsOf n rs (Plan.hops p.nodes es) = W := ⟨_, rfl⟩
      have HWe : Hid (Route.rowsOf n rs (Plan.hops p.nodes es) = W) := hW
      have HFit : Hid (Route.Fit W) := by show Route.Fit _; rw [← hW]; exact Route.rowsOf_fit _ _ _
      rw [hW] at hmr4 ⊢
      obtain ⟨m, hm⟩ : ∃ m, W.length = m := ⟨_, rfl⟩
      rw [hm] at hmr4 ⊢
      have hm36 : m ≤ 36 := by rw [← hm, ← hW]; exact HF36.out
      have HB4 : Hid (Below w.heap.size w w4) := later HB3.out hB4
      have HG : Hid _ := goround_any (c := c4) hmr4 HFit.out hm36
      clear hB4 hmr4 hW hm hm36 x0 x1 x2 x3 x4 x5 x6 x7 x8 x9 x10
      go_wp2_with fail
      refine Calls.mono HG.out ?_
      rintro e w5 ⟨b5, rfl, ht5, hf5, hB5⟩
      have HT5 : Hid _ := ht5
      have HF5 : Hid _ := hf5
      have HB5 : Hid (Below w.heap.size w w5) := later HB4.out hB5
      clear ht5 hf5 hB5 HG
      have HRo : Hid (Route.rowsOf p.nodes.toNat rs (Plan.hops p.nodes es) = W) := by show _ = _; rw [← HWe.out, HN.out, Int.toNat_natCast]
      cases b5 with
      | true =>
        have HR : Hid (Route.CheckIs true p.nodes es rs 140) := by
          refine .inr (.inl ⟨rfl, .inr ?_, rfl⟩)
          rw [HRo.out]
          exact HT5.out rfl
        clear HT5 HF5
        go_wp2_with fail
        go_ret
        exact ⟨140, rfl, HR.out, HB5.out⟩
      | false =>
        have HR : Hid (Route.CheckIs true p.nodes es rs 0) := by
          refine .inr (.inr ⟨rfl, fun hb => ?_, rfl⟩)
          rcases hb with hb | ⟨i, hi⟩
          · rw [HN.out] at hb
            exact Route.all_come HAC.out hb
          · rw [HRo.out] at hi
            exact HF5.out rfl i hi
        clear HT5 HF5
        go_wp2_with fail
        go_ret
        exact ⟨0, rfl, HR.out, HB5.out⟩
end Go.Proofs.YtniicgbkeifnjaaGreatDoor
namespace Go.Proofs.YtniicgbkeifnjaaGreatDoor
open Go.ChangeShapes Go.WideShapes Go.ChangeAt Go.RowKit
set_option linter.unusedVariables false
set_option maxRecDepth 100000
namespace Nd
def wayOf (es : List (Int × Int)) (rs : List (List Int)) (v d : Nat) : Nat := if d = v then 0 else (Plan.port es v (Route.nx rs v d)).toNat
def cfgOf (p : PV) (es : List (Int × Int)) (ws : List Int) (rs : List (List Int)) (v : Nat) : Cfg :=
  ⟨v, p.nodes.toNat, p.lanes.toNat, p.room.toNat, p.queue.toNat, p.rounds.toNat, p.every.toNat, Plan.bes es v, wayOf es rs v, fun k => ws.getD k 0⟩
structure NewOk (p : PV) (es : List (Int × Int)) (ws : List Int) (rs : List (List Int)) (n v : Nat) : Prop where
  mn : MayN p es rs n
  vn : v < n
  lanes : 1 ≤ p.lanes ∧ p.lanes ≤ 3
  room : 1 ≤ p.room ∧ p.room ≤ 8
  queue : 1 ≤ p.queue ∧ p.queue ≤ 8
  rounds : 1 ≤ p.rounds ∧ p.rounds ≤ 4
  every : 1 ≤ p.every ∧ p.every ≤ 8
  start : 0 ≤ p.start ∧ p.start ≤ 65535
  wlen : (ws.length : Int) = p.lanes
  wok : Plan.wsOk ws = true
  port : ∀ d, d < n → d ≠ v → 1 ≤ Plan.port es v (Route.nx rs v d)
  bs5 : (Plan.bes es v).length ≤ 5
  bs1 : 1 ≤ (Plan.bes es v).length
set_option maxHeartbeats 4000000 in
set_option maxRecDepth 100000 in
theorem ways_new {w : World} {p : PV} {es : List (Int × Int)} {ws : List Int} {rs : List (List Int)} {n v : Nat} (h : PlN w p es ws rs) (hn : p.nodes = (n : Int)) (h6 : n ≤ 6) (hr : rs.length = n) (hrow : (rs.getD v []).length = n) (hv : v < n) (hp : ∀ d, d < n → d ≠ v → 1 ≤ Plan.port es v (Route.nx rs v d)) :
    Calls Tryz.prog 37 #[p.val, .int .i64 (v : Nat)] w fun e w' => ∃ g, e = .returned (.slice (some ⟨g, 0, none⟩) n n) ∧ w.heap.size ≤ g ∧ M.Ints w' g n (fun d => (wayOf es rs v d : Nat)) ∧ Below w.heap.size w w' := by
  have HX : Hid (Bxd (w.alloc p.obj) w.heap.size p) := bxd_new w p
  have HW : Hid (Below w.heap.size w (w.alloc p.obj) ∧ (w.alloc p.obj).heap.size = w.heap.size + 1) := ⟨fresh _ _, by simp⟩
  have hnn : p.nn = n := by have := h.mr.1; omega
  have HP : Hid (PlN w p es ws rs) := h
  have HPo : Hid (∀ d, d < n → d ≠ v → 1 ≤ Plan.port es v (Route.nx rs v d)) := hp
  clear h hp
  have HC : Hid (∀ (u : World), Below w.heap.size w u → ∀ z : Int, Calls Tryz.prog 95 #[p.val, .int .i64 (v : Nat), .int .i64 z] u fun e w' => e = .returned (.int .i64 (Plan.port es v z)) ∧ Below u.heap.size u w') := fun u hu z => port_any (HP.out.below hu).pl v z
  obtain ⟨b, off, ra, rc, ea, hcr, hzr, hrc⟩ := HP.out.mr.at (k := v) (by omega)
  rw [hrow] at hcr hzr
  have HZr : Hid (Zr w ra n (rs.getD v [])) := hzr
  obtain ⟨rb, ro, hra, _⟩ := hzr.at (k := 0) (by omega)
  subst hra
  have hmk := run_make_row' (P := Tryz.prog) 27 3 (.int .i64 0) 8 Tryz.underlying27 infoI rfl .i64 .i64 n (by omega) (by omega)
  have HCr : Hid (∀ u : World, Below w.heap.size w u → u.cell? ⟨b, off + v, none⟩ = some (.slice (some ⟨rb, ro, none⟩) n rc)) := fun u hu => by
    have hb : b < w.heap.size := cell_lt hcr
    exact (hu.cell (p := ⟨b, off + v, none⟩) hb).trans hcr
  clear hcr hzr
  obtain ⟨nodes, lanes, room, queue, rounds, every, bag, start, ea', en, ec, wa, wn, wc, na, nn, nc⟩ := p
  simp only at hn hnn ea
  subst hn hnn ea
  obtain ⟨W, hWe⟩ : ∃ W, W = w.alloc (PV.obj ⟨(nn : Nat), lanes, room, queue, rounds, every, bag, start, ea', en, ec, wa, wn, wc, some ⟨b, off, none⟩, nn, nc⟩) := ⟨_, rfl⟩
  rw [← hWe] at HX HW
  have HWb : Hid (Below w.heap.size w W) := HW.out.1
  obtain ⟨V, hV⟩ : ∃ V, V = W.alloc (.cells (madeCells #[.int .i64 0] nn) 3) := ⟨_, rfl⟩
  obtain ⟨g, hg⟩ : ∃ g, W.heap.size = g := ⟨_, rfl⟩
  have HGw : Hid (w.heap.size + 1 = g) := by rw [← hg]; exact HW.out.2.symm
  have HV : Hid (NRow V g nn (fun _ => 0) ∧ Below w.heap.size w V ∧ Bxd V w.heap.size ⟨(nn : Nat), lanes, room, queue, rounds, every, bag, start, ea', en, ec, wa, wn, wc, some ⟨b, off, none⟩, nn, nc⟩ ∧ V.heap.size = g + 1) := by
    rw [hV, ← hg]
    exact ⟨NRow.made W nn, later HWb.out (fresh _ _), HX.out.below (fresh _ _), by simp⟩
  obtain ⟨x0, x1, x2, x3, x4, x5, x6, x7, x8, x9, x10⟩ := HX.out
  simp only at x0 x1 x2 x3 x4 x5 x6 x7 x8 x9 x10
  have hvI : (v : Int) < (nn : Int) := by omega
  have hv0 : ¬ (v : Int) < 0 := by omega
  simp only [PV.val, PV.obj] at hWe HC ⊢
  go_enter Tryz.func37, Tryz.ntmps37
  go_upto_region 1 with fail
  rw [← hWe]
  clear hWe
  go_upto_region 2 with fail
  rw [← hV]
  clear hV hg x0 x1 x2 x3 x4 x5 x6 x7 x8 x9 x10
  obtain ⟨x0, x1, x2, x3, x4, x5, x6, x7, x8, x9, x10⟩ := HV.out.2.2.1
  simp only at x0 x1 x2 x3 x4 x5 x6 x7 x8 x9 x10
  have cr := HCr.out V HV.out.2.1
  go_wp2_with fail
  clear cr x0 x1 x2 x3 x4 x5 x6 x7 x8 x9 x10
  go_loopw [6, 7, 17] (fun _ _ j wr => ∃ d : Nat, d ≤ nn ∧ j = .int .i64 d ∧ NRow wr g nn (fun k => if k < d then (wayOf es rs v k : Nat) else 0) ∧ Sans (fun j => j = g) V wr) (fun _ _ j _ => nn - (intOf j).toNat)
  case atStart => exact ⟨0, Nat.zero_le _, rfl, HV.out.1.congr (fun k _ => by rw [if_neg (by omega)]), Sans.refl _ _⟩
  case round =>
    obtain ⟨d, hd, rfl, hR, hS⟩ := hrel
    have HR : Hid (NRow wr g nn (fun k => if k < d then (wayOf es rs v k : Nat) else 0)) := hR
    have HS : Hid (Sans (fun j => j = g) V wr) := hS
    clear hR hS
    have HBw : Hid (Below w.heap.size w wr) := HV.out.2.1.trans (HS.out.below (B := w.heap.size) HV.out.2.1.size (fun k e => by have := HGw.out; omega))
    have hXr := HV.out.2.2.1.sans HS.out (show ¬ w.heap.size = g by have := HGw.out; omega)
    have HXr : Hid _ := hXr
    clear hXr
    by_cases hdn : d < nn
    · have hdI : (d : Int) < (nn : Int) := by omega
      have cd := zr_at (HZr.out.below HBw.out) d hdn
      obtain ⟨z, hz⟩ : ∃ z, (rs.getD v []).getD d 0 = z := ⟨_, rfl⟩
      rw [hz] at cd
      have HZd : Hid (Route.nx rs v d = z) := by show _ = _; rw [← hz]; unfold Route.nx; rw [Int.toNat_natCast, Int.toNat_natCast]
      clear hz
      by_cases hdv : d = v
      · have hx : ((d : Int) != (v : Int)) = false := by rw [hdv]; simp
        have HR2 : Hid (NRow wr g nn (fun k => if k < d + 1 then (wayOf es rs v k : Nat) else 0)) := HR.out.congr (fun k _ => by
          by_cases e : k < d
          · rw [if_pos e, if_pos (by omega)]
          · by_cases e2 : k = d
            · rw [if_neg e, if_pos (by omega), e2, hdv]
              unfold wayOf
              rw [if_pos rfl]
              rfl
            · rw [if_neg e, if_neg (by omega)])
        clear hdv
        go_wp2_with fail
        go_roundw
        case rel =>
          first | exact ⟨d + 1, by omega, by go_num, HR2.out, HS.out⟩ | ((repeat apply Exists.intro); exact ⟨⟨d + 1, by omega, by go_num, HR2.out, HS.out⟩, rfl⟩)
        case measure => simp [intOf]; omega
      · have hx : ((d : Int) != (v : Int)) = true := by simp; omega
        have HP1 : Hid (Plan.port es v z = ((wayOf es rs v d : Nat) : Int)) := by
          show _ = _
          unfold wayOf
          rw [if_neg hdv, ← HZd.out]
          have := HPo.out d hdn hdv
          omega
        have HCd : Hid _ := HC.out wr HBw.out z
        clear hdv
        obtain ⟨x0, x1, x2, x3, x4, x5, x6, x7, x8, x9, x10⟩ := HXr.out
        simp only at x0 x1 x2 x3 x4 x5 x6 x7 x8 x9 x10
        go_wp2_with fail
        refine Calls.mono HCd.out ?_
        rintro e w2 ⟨rfl, hB2⟩
        rw [HP1.out]
        have HR2 : Hid (NRow w2 g nn (fun k => if k < d then (wayOf es rs v k : Nat) else 0)) := HR.out.below hB2
        have HS2 : Hid (Sans (fun j => j = g) V w2) := HS.out.then (Sans.of_below hB2)
        obtain ⟨y, hy⟩ : ∃ y, wayOf es rs v d = y := ⟨_, rfl⟩
        have HY : Hid (wayOf es rs v d = y) := hy
        rw [hy]
        have HR3 : Hid (NRow (w2.setCell ⟨g, d, none⟩ (.int .i64 (y : Nat))) g nn (fun k => if k < d + 1 then (wayOf es rs v k : Nat) else 0)) := (HR2.out.set d (y : Nat)).congr (fun k _ => by
          unfold up1
          by_cases e2 : k = d
          · rw [if_pos e2, if_pos (by omega), e2, HY.out]
          · rw [if_neg e2]
            show (if k < d then ((wayOf es rs v k : Nat) : Int) else 0) = _
            by_cases e : k < d
            · rw [if_pos e, if_pos (by omega)]
            · rw [if_neg e, if_neg (by omega)])
        have HS3 : Hid (Sans (fun j => j = g) V (w2.setCell ⟨g, d, none⟩ (.int .i64 (y : Nat)))) := HS2.out.then (Sans.of_set _ _ _ rfl)
        have k0 := HR2.out.cell hdn
        have k1 := HR2.out.frozen d
        simp only [Nat.lt_irrefl, if_false] at k0
        clear hB2 x0 x1 x2 x3 x4 x5 x6 x7 x8 x9 x10 hy
        go_wp2_with fail
        go_roundw
        case rel =>
          first | exact ⟨d + 1, by omega, by go_num, HR3.out, HS3.out⟩ | ((repeat apply Exists.intro); exact ⟨⟨d + 1, by omega, by go_num, HR3.out, HS3.out⟩, rfl⟩)
        case measure => simp [intOf]; omega
    · obtain rfl : d = nn := by omega
      have HE : Hid (w.heap.size ≤ g ∧ M.Ints wr g d (fun k => (wayOf es rs v k : Nat)) ∧ Below w.heap.size w wr) := ⟨by have := HGw.out; omega, (HR.out.congr (g := fun k => ((wayOf es rs v k : Nat) : Int)) (fun k hk => by rw [if_pos hk])).ints, HBw.out⟩
      go_wp2_with fail
      go_ret
      exact ⟨g, rfl, HE.out⟩
end Nd
end Go.Proofs.YtniicgbkeifnjaaGreatDoor
namespace Go.Proofs.YtniicgbkeifnjaaGreatDoor
open Go.ChangeShapes Go.WideShapes Go.ChangeAt Go.RowKit
set_option linter.unusedVariables false
set_option maxRecDepth 100000
theorem k64 (n : Nat) (h : n ≤ 1000000) : K.I64 (n : Nat) := by unfold K.I64; omega
theorem wf3 {i o l : Nat} (h1 : i ≤ 1000) (h2 : o ≤ 1000) (h3 : l ≤ 1000) : K.Wf ((i : Nat), (o : Nat), (l : Nat)) := ⟨k64 i (by omega), k64 o (by omega), k64 l (by omega)⟩
namespace Nd
section
variable {w w' : World} {F FH FR : Nat → Prop} {B : Lb → Nat} {ph pr : Nat} {c : Cfg} {s : St} {m : Nat}
theorem NIn.qlen (h : NIn w F FH FR B ph pr c s m) (q : K.Pl) : (s.Q q).length ≤ m := by
  obtain ⟨G, pp, mb, S, E, V, sl, r, _⟩ := h.rings
  rw [← (r.held q).1]
  exact r.len q
theorem inside_le (h : NIn w F FH FR B ph pr c s m) (i l : Nat) : ∀ o, inside s i l o ≤ o * m
  | 0 => by simp [inside]
  | o + 1 => by
    have := inside_le h i l o
    have := h.qlen ((i : Nat), (o : Nat), (l : Nat))
    rw [inside, Nat.succ_mul]
    omega
theorem isnode_any (h : NIn w F FH FR B ph pr c s m) (d : Int) {b : Bool} (hb : (decide (0 ≤ d) && decide (d < (c.N : Int))) = b) :
    Calls Tryz.prog 42 #[.pointer (some ⟨B .p, 0, none⟩), .int .i64 d] w fun e w' => e = .returned (.bool b) ∧ w' = w := by
  obtain ⟨wc, h7⟩ := h.c7
  have HC : Hid ((decide (0 ≤ d) && decide (d < (c.N : Int))) = b) := hb
  clear hb h
  by_cases h1 : 0 ≤ d
  · by_cases h2 : d < (c.N : Int)
    · have e : b = true := by rw [← HC.out, decide_eq_true h1, decide_eq_true h2]; rfl
      subst e
      clear HC
      go_enter Tryz.func42, Tryz.ntmps42
      go_wp2_with fail
      go_ret
      exact ⟨rfl, rfl⟩
    · have e : b = false := by rw [← HC.out, decide_eq_true h1, decide_eq_false h2]; rfl
      subst e
      clear HC
      go_enter Tryz.func42, Tryz.ntmps42
      go_wp2_with fail
      go_ret
      exact ⟨rfl, rfl⟩
  · have e : b = false := by rw [← HC.out, decide_eq_false h1]; rfl
    subst e
    clear HC
    go_enter Tryz.func42, Tryz.ntmps42
    go_wp2_with fail
    go_ret
    exact ⟨rfl, rfl⟩
theorem portof_any (h : NIn w F FH FR B ph pr c s m) (d : Nat) (hd : d < c.N) {z : Nat} (hz : c.way d = z) :
    Calls Tryz.prog 104 #[.pointer (some ⟨B .p, 0, none⟩), .int .i64 d] w fun e w' => e = .returned (.int .i64 z) ∧ w' = w := by
  obtain ⟨wc, h7⟩ := h.c7
  have hw := h.ways d hd
  rw [hz] at hw
  have HN : Hid (NIn w F FH FR B ph pr c s m) := h
  have HB : Hid ((decide (0 ≤ (d : Int)) && decide ((d : Int) < (c.N : Int))) = true) := by
    show _ = _
    rw [decide_eq_true (by omega), decide_eq_true (by omega)]; rfl
  have hdn : (d : Int) < (c.N : Int) := by omega
  clear h hz
  go_enter Tryz.func104, Tryz.ntmps104
  go_wp2_with fail
  refine (isnode_any HN.out (d : Int) HB.out).mono ?_
  rintro e u ⟨rfl, hq⟩
  obtain rfl := hq.symm
  go_wp2_with fail
  go_ret
  exact ⟨rfl, rfl⟩
set_option maxHeartbeats 1000000 in
theorem ninside_any (h : NIn w F FH FR B ph pr c s m) (hm : m ≤ 100000) (i l : Nat) (hi : i ≤ 100) (hl : l ≤ 100) {z : Nat} (hz : inside s i l c.P = z) :
    Calls Tryz.prog 101 #[.pointer (some ⟨B .p, 0, none⟩), .int .i64 i, .int .i64 l] w fun e w' => e = .returned (.int .i64 z) ∧ w' = w := by
  obtain ⟨pc, _, _, h6⟩ := h.c6
  have h9 := h.c9
  have HN : Hid (NIn w F FH FR B ph pr c s m) := h
  have hP := h.cfg.P6
  have HZ : Hid (inside s i l c.P = z) := hz
  obtain ⟨P, hp⟩ : ∃ P, c.P = P := ⟨_, rfl⟩
  rw [hp] at h6 hP HZ
  clear h hz hp
  go_enter Tryz.func101, Tryz.ntmps101
  go_wp2_with fail
  go_loopw [7, 8, 14] (fun a _ j wr => ∃ k : Nat, k ≤ P ∧ j = .int .i64 k ∧ a = .int .i64 (inside s i l k : Nat) ∧ wr = w) (fun _ _ j _ => P - (intOf j).toNat)
  case atStart => exact ⟨0, Nat.zero_le _, rfl, rfl, rfl⟩
  case round =>
    obtain ⟨k, hk, rfl, rfl, rfl⟩ := hrel
    by_cases hkn : k < P
    · obtain ⟨y, hy⟩ : ∃ y, (s.Q ((i : Nat), (k : Nat), (l : Nat))).length = y := ⟨_, rfl⟩
      have HY : Hid ((s.Q ((i : Nat), (k : Nat), (l : Nat))).length = y) := hy
      have hym : y ≤ m := by rw [← hy]; exact HN.out.qlen _
      have hin := inside_le HN.out i l k
      obtain ⟨x, hx⟩ : ∃ x, inside s i l k = x := ⟨_, rfl⟩
      have HX : Hid (inside s i l (k + 1) = x + y) := by
        show _ = _
        rw [inside, hx, hy]
      have hx6 : x ≤ 600000 := by
        rw [← hx]
        refine Nat.le_trans hin (Nat.le_trans (Nat.mul_le_mul (show k ≤ 6 by omega) hm) (by omega))
      rw [hx]
      clear hx hin hy
      have w1 : IntKind.i64.wrap ((x : Int) + (y : Int)) = ((x + y : Nat) : Int) := by rw [IntKind.wrap_i64]; omega
      go_wp2_with (go_at_call 161; refine (K.len_any HN.out.rings (i : Nat) (k : Nat) (l : Nat) (wf3 (by omega) (by omega) (by omega)) y HY.out).mono ?_; rintro e u ⟨rfl, hq⟩; obtain rfl := hq.symm)
      go_roundw
      case rel => exact ⟨k + 1, by omega, by go_num, by rw [HX.out]; first | rfl | rw [w1], trivial⟩
      case measure => simp [intOf]; omega
    · obtain rfl : k = P := by omega
      go_wp2_with fail
      go_ret
      rw [HZ.out]
      exact ⟨rfl, rfl⟩
theorem NIn.row (h : NIn w F FH FR B ph pr c s m) {i : Nat} (hi : i < c.P) : ∃ lv, w.cell? ⟨B .pb, i * 3 + 2, none⟩ = some lv ∧ ((i = 0 ∧ lv = .slice none 0 0) ∨ (1 ≤ i ∧ ∃ lc, lv = .slice (some ⟨B (.lb i), 0, none⟩) c.L lc)) := by
  rcases Nat.eq_zero_or_pos i with h0 | h1
  · subst h0
    exact ⟨_, h.row0, .inl ⟨rfl, rfl⟩⟩
  · obtain ⟨lc, e⟩ := h.rowl i h1 hi
    exact ⟨_, e, .inr ⟨h1, lc, rfl⟩⟩
set_option maxHeartbeats 1000000 in
theorem takes_any (h : NIn w F FH FR B ph pr c s m) {i l : Nat} (hi : i < c.P) (hl : l < c.L) (a0 a1 lv : Value) (hlv : (i = 0 ∧ lv = .slice none 0 0) ∨ (1 ≤ i ∧ ∃ lc, lv = .slice (some ⟨B (.lb i), 0, none⟩) c.L lc)) {b : Bool} (hb : (decide (i = 0) || decide (0 < (s.s i l).2 - (s.s i l).1)) = b) :
    Calls Tryz.prog 213 #[.agg #[a0, a1, lv], .int .i64 l] w fun e w' => e = .returned (.bool b) ∧ Below w.heap.size w w' := by
  have q29 : ∀ (w : World) (a : Option Addr) (n c n' c' : Nat), (binOp .eql 111 (.slice a n c) (.slice none n' c')).run Tryz.prog w = .ok (.bool a.isNone) w := fun w a n c n' c' => Lib.run_eql_slice_nil w _ _ a n c n' c' Tryz.underlying111
  rcases hlv with ⟨rfl, rfl⟩ | ⟨h1, lc, rfl⟩
  · have hb' : b = true := by rw [← hb]; rfl
    subst hb'
    clear hb h
    go_enter Tryz.func213, Tryz.ntmps213
    go_wp2_with fail
    go_ret
    exact ⟨rfl, fresh _ _⟩
  · obtain ⟨u, hu⟩ : ∃ u, (s.s i l).2 - (s.s i l).1 = u := ⟨_, rfl⟩
    have hb' : b = decide (0 < u) := by rw [← hb, hu, decide_eq_false (by omega), Bool.false_or]
    subst hb'
    have hl1 := (h.lanes i l h1 hi hl).1
    have HS : Hid (Cr.Snd w (B (.sq i l)) (s.s i l).1 (s.s i l).2) := h.snd i l h1 hi hl
    have HU : Hid ((s.s i l).2 - (s.s i l).1 = u) := hu
    obtain ⟨W, hW⟩ : ∃ W, W = w.alloc (.cells #[a0, a1, .slice (some ⟨B (.lb i), 0, none⟩) c.L lc] 113) := ⟨_, rfl⟩
    have HB : Hid (Below w.heap.size w W) := by rw [hW]; exact fresh _ _
    have HK : Hid (∀ o, W.cell? ⟨B (.lb i), o, none⟩ = w.cell? ⟨B (.lb i), o, none⟩) := fun o => HB.out.cell (p := ⟨B (.lb i), o, none⟩) (h.foot _ (h.own (.lb i) ⟨h1, hi⟩).1)
    have k0 : W.cell? ⟨B (.lb i), l * 2, none⟩ = some (.pointer (some ⟨B (.sq i l), 0, none⟩)) := (HK.out _).trans hl1
    have k2 : W.cell? ⟨w.heap.size, 2, none⟩ = some (.slice (some ⟨B (.lb i), 0, none⟩) c.L lc) := by rw [hW]; simp
    have hlL : (l : Int) < (c.L : Int) := by omega
    clear h hb hu hl1
    go_enter Tryz.func213, Tryz.ntmps213
    go_upto_region 1 with fail
    rw [← hW]
    clear hW
    go_wp2_with (go_at_call 29; refine (Cr.susable_below (HS.out.below HB.out) HU.out).mono ?_; rintro e u1 ⟨rfl, hB1⟩; have HB1 : Hid (Below w.heap.size w u1) := later HB.out hB1; clear hB1)
    go_ret
    exact ⟨rfl, HB1.out⟩
end
end Nd
end Go.Proofs.YtniicgbkeifnjaaGreatDoor
