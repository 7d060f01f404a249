/-
  The document's own Waits (package shunterref14). Conditions: none but that the plan's rows are led to.
-/
import Derived.Test.YtphaaolnmbadcaaRefRouteA
import Derived.Test.YtphaaolnmbadcaaRefPlanC
import Derived.Test.YtphaaolnmbadcaaRefPlanF
import Derived.Test.YtphaaolnmbadcaaPlanSum
namespace Go.Proofs.Ytphaaolnmbadcaa
open Go.ChangeShapes Go.WideShapes Go.ChangeAt Go.RowKit
set_option linter.unusedVariables false

theorem rcheck_is {w : World} {p : PV} {es : List (Int × Int)} {ws : List Int} {ns : List Nat} (h : Pl w p es ws ns) {b : Bool} (hb : Plan.may p.num es ws ns = b) :
    Calls Try.prog 45 #[p.val] w fun e w' => e = .returned (.int .i64 (if b then 0 else 120)) ∧ Below w.heap.size w w' := by
  subst hb
  exact rcheck_any h
namespace Route
/-- the first k places of a row -/
def part (N : Nat) (rs : List (List Int)) (l : List (Int × Int)) (a : Int × Int) (k : Nat) : List Int := ((List.range k).filter fun j => wait N rs a (l.getD j (0, 0))).map fun (j : Nat) => (j : Int)
theorem part_zero (N : Nat) (rs : List (List Int)) (l : List (Int × Int)) (a : Int × Int) : part N rs l a 0 = [] := rfl
theorem part_hit {N : Nat} {rs : List (List Int)} {l : List (Int × Int)} {a : Int × Int} {k : Nat} (h : wait N rs a (l.getD k (0, 0)) = true) : part N rs l a k ++ [(k : Int)] = part N rs l a (k + 1) := by
  unfold part
  rw [List.range_succ, List.filter_append, List.map_append]
  simp [List.getD_eq_getElem?_getD] at h
  simp [h]
theorem part_miss {N : Nat} {rs : List (List Int)} {l : List (Int × Int)} {a : Int × Int} {k : Nat} (h : wait N rs a (l.getD k (0, 0)) = false) : part N rs l a (k + 1) = part N rs l a k := by
  unfold part
  rw [List.range_succ, List.filter_append, List.map_append]
  simp [List.getD_eq_getElem?_getD] at h
  simp [h]
theorem part_len (N : Nat) (rs : List (List Int)) (l : List (Int × Int)) (a : Int × Int) (k : Nat) : (part N rs l a k).length ≤ k := by
  unfold part
  rw [List.length_map]
  have := List.length_filter_le (fun j => wait N rs a (l.getD j (0, 0))) (List.range k)
  rw [List.length_range] at this
  exact this
theorem part_row (N : Nat) (rs : List (List Int)) (l : List (Int × Int)) (i : Nat) : part N rs l (l.getD i (0, 0)) l.length = row N rs l i := rfl
theorem rowsOf_take {N : Nat} {rs : List (List Int)} {l : List (Int × Int)} {t : Nat} (h : t < l.length) : (rowsOf N rs l).take t ++ [row N rs l t] = (rowsOf N rs l).take (t + 1) := by
  have hl : t < (rowsOf N rs l).length := by rw [rowsOf_len]; exact h
  rw [List.take_succ_eq_append_getElem hl]
  congr 2
  simp [rowsOf]
end Route
theorem hops_in {p : PV} {es : List (Int × Int)} {rs : List (List Int)} {n : Nat} (hm : MayN p es rs n) {e : Int × Int} (he : e ∈ Plan.hops (n : Int) es) : (0 ≤ e.1 ∧ e.1 < (n : Int)) ∧ (0 ≤ e.2 ∧ e.2 < (n : Int)) := by
  unfold Plan.hops at he
  obtain ⟨v, hv, h1⟩ := Plan.mem_hopsTo he
  obtain ⟨h2, h3, _⟩ := Plan.mem_hopsOf h1
  unfold Plan.upto at hv
  exact ⟨by omega, hm.in_bes h3⟩
theorem hops_few {n : Nat} (es : List (Int × Int)) (hn : n ≤ 6) : (Plan.hops (n : Int) es).length ≤ 36 := by
  have := Plan.hopsTo_len es (Plan.upto (n : Int))
  unfold Plan.hops
  unfold Plan.upto at this ⊢
  omega
set_option maxHeartbeats 8000000 in
set_option maxRecDepth 100000 in
theorem rwaits_any {w : World} {p : PV} {es : List (Int × Int)} {ws : List Int} {rs : List (List Int)} (h : PlN w p es ws rs) {b : Bool} (hb : Plan.may p.num es ws (rs.map List.length) = b) :
    Calls Try.prog 29 #[p.val] w fun e w' => ∃ x vs, e = .returned x ∧ Rb w' w.heap.size x (Route.waitsOf b p.nodes es rs).length (Route.waitsOf b p.nodes es rs) vs ∧ Below w.heap.size w w' := by
  have HP : Hid (PlN w p es ws rs) := h
  have HX : Hid (Bxd (w.alloc p.obj) w.heap.size p) := bxd_new w p
  have HPb : Hid (PlN (w.alloc p.obj) p es ws rs) := h.below (fresh _ _)
  have HW : Hid (Below w.heap.size w (w.alloc p.obj)) := fresh _ _
  have HMb : Hid (Plan.may p.num es ws (rs.map List.length) = b) := hb
  clear h
  obtain ⟨x0, x1, x2, x3, x4, x5, x6, x7, x8, x9, x10⟩ := HX.out
  simp only [PV.obj] at HX HPb HW x0 x1 x2 x3 x4 x5 x6 x7 x8 x9 x10
  obtain ⟨pv, hpv⟩ : ∃ pv, p.val = pv := ⟨_, rfl⟩
  have HPv : Hid (p.val = pv) := hpv
  cases b with
  | false =>
    clear hb hpv
    unfold PV.val
    go_enter Try.func29, Try.ntmps29
    go_wp2_with fail
    refine (rcheck_is HPb.out.pl HMb.out).mono ?_
    rintro e w1 ⟨rfl, hB1⟩
    have HB1 : Hid (Below w.heap.size w w1) := later HW.out hB1
    clear hB1 x0 x1 x2 x3 x4 x5 x6 x7 x8 x9 x10
    go_wp2_with fail
    go_ret
    exact ⟨_, [], rfl, Rb.nil _ _, HB1.out⟩
  | true =>
    obtain ⟨n, hm⟩ := may_n hb
    have HM : Hid (MayN p es rs n) := hm
    have hN := hm.nodes
    have hn6 := hm.two
    obtain ⟨l, hl⟩ : ∃ l, Plan.hops p.nodes es = l := ⟨_, rfl⟩
    have HLi : Hid (∀ e ∈ l, (0 ≤ e.1 ∧ e.1 < (n : Int)) ∧ (0 ≤ e.2 ∧ e.2 < (n : Int))) := by
      show ∀ _, _
      rw [← hl, hN]
      exact fun e he => hops_in hm he
    have hl36 : l.length ≤ 36 := by rw [← hl, hN]; exact hops_few es hn6.2
    have HWo : Hid (Route.waitsOf true p.nodes es rs = Route.rowsOf n rs l) := by
      show _ = _
      unfold Route.waitsOf
      rw [if_pos rfl, hl, hN, Int.toNat_natCast]
    have HL : Hid (Plan.hops p.nodes es = l) := hl
    rw [HWo.out]
    clear hb hm hl hpv hN
    unfold PV.val
    go_enter Try.func29, Try.ntmps29
    go_wp2_with fail
    refine (rcheck_is HPb.out.pl HMb.out).mono ?_
    rintro e w1 ⟨rfl, hB1⟩
    have HB1 : Hid (Below w.heap.size w w1) := later HW.out hB1
    have HX1 : Hid (Bxd w1 w.heap.size p) := HX.out.below hB1
    have HP1 : Hid (PlN w1 p es ws rs) := HPb.out.below hB1
    clear hB1 x0 x1 x2 x3 x4 x5 x6 x7 x8 x9 x10
    obtain ⟨x0, x1, x2, x3, x4, x5, x6, x7, x8, x9, x10⟩ := HX1.out
    go_wp2_with fail
    refine (rhops_any HP1.out.pl).mono ?_
    rintro e w2 ⟨u, rfl, hO2, hB2⟩
    rw [HL.out] at hO2
    obtain ⟨ha, hcap, rfl, hpr, _⟩ := pr_of_owns hO2
    obtain ⟨L, hLl⟩ : ∃ L, l.length = L := ⟨_, rfl⟩
    rw [hLl] at hpr hl36 ⊢
    have HLl : Hid (l.length = L) := hLl
    have HPr2 : Hid (Pr w2 ha L l) := hpr
    have HB2 : Hid (Below w.heap.size w w2) := later HB1.out hB2
    have HX2 : Hid (Bxd w2 w.heap.size p) := HX1.out.below hB2
    have HP2 : Hid (PlN w2 p es ws rs) := HP1.out.below hB2
    have hg : w.heap.size < w2.heap.size := cell_lt HX2.out.c0
    clear hB2 hO2 hpr hLl x0 x1 x2 x3 x4 x5 x6 x7 x8 x9 x10 HB1 HX1 HP1
    go_wp2_with fail
    go_loopw [4, 5, 6, 7] (fun out i _ _ wr => ∃ (t : Nat) (vs : List Value), t ≤ L ∧ i = .int .i64 t ∧ Rb wr w2.heap.size out t ((Route.rowsOf n rs l).take t) vs ∧ Below w2.heap.size w2 wr) (fun _ i _ _ _ => L - (intOf i).toNat)
    case atStart => exact ⟨0, [], Nat.zero_le _, rfl, Rb.nil _ _, Below.refl _ _⟩
    case round =>
      obtain ⟨t, vs, ht, rfl, hR, hBr⟩ := hrel
      have HR6 : Hid (Rb wr w2.heap.size u4 t ((Route.rowsOf n rs l).take t) vs) := hR
      have HB6 : Hid (Below w2.heap.size w2 wr) := hBr
      have hsz6 := hBr.size
      clear hR hBr
      obtain ⟨Wi, hWi⟩ : ∃ Wi, Wi = wr := ⟨_, rfl⟩
      subst hWi
      by_cases htL : t < L
      · have htI : (t : Int) < (L : Int) := by omega
        obtain ⟨hb, ho, eh, ch1, ch2⟩ := (HPr2.out.below HB6.out).at htL
        subst eh
        obtain ⟨a1, hba1⟩ : ∃ a, (l.getD t (0, 0)).1 = a := ⟨_, rfl⟩
        obtain ⟨a2, hba2⟩ : ∃ a, (l.getD t (0, 0)).2 = a := ⟨_, rfl⟩
        have HAt : Hid (l.getD t (0, 0) = (a1, a2)) := by show _ = _; rw [← hba1, ← hba2]
        have HIn : Hid ((0 ≤ a1 ∧ a1 < (n : Int)) ∧ (0 ≤ a2 ∧ a2 < (n : Int))) := by
          have hmem : l.getD t (0, 0) ∈ l := by
            have := HLl.out
            rw [List.getD_eq_getElem?_getD, List.getElem?_eq_getElem (show t < l.length by omega)]
            exact List.getElem_mem _
          have := HLi.out _ hmem
          rw [hba1, hba2] at this
          exact this
        rw [hba1] at ch1
        rw [hba2] at ch2
        clear hba1 hba2
        go_wp2_with fail
        go_loopw [6, 7] (fun rowv x wx => ∃ k : Nat, k ≤ L ∧ x = .int .i64 k ∧ wx.ownsRow Wi.heap.size 3 1 rowv (Route.part n rs l (a1, a2) k).length (zcells (Route.part n rs l (a1, a2) k)) ∧ Below Wi.heap.size Wi wx) (fun _ x _ => L - (intOf x).toNat)
        case atStart => exact ⟨0, Nat.zero_le _, rfl, World.ownsRow_nil _ _ _ _, Below.refl _ _⟩
        case round =>
          obtain ⟨k, hk, rfl, hO7, hB7⟩ := hrel
          have HO7 : Hid (wr.ownsRow Wi.heap.size 3 1 u6 (Route.part n rs l (a1, a2) k).length (zcells (Route.part n rs l (a1, a2) k))) := hO7
          have HB7 : Hid (Below Wi.heap.size Wi wr) := hB7
          have hsz7 := hB7.size
          have hpl := Route.part_len n rs l (a1, a2) k
          clear hO7
          by_cases hkL : k < L
          · have hkI : (k : Int) < (L : Int) := by omega
            have HBw : Hid (Below w2.heap.size w2 wr) := HB6.out.trans (hB7.mono hsz6)
            obtain ⟨hb', ho', eh, ck1, ck2⟩ := (HPr2.out.below HBw.out).at hkL
            cases eh
            obtain ⟨hb', ho', eh, ct1, ct2⟩ := (HPr2.out.below HBw.out).at htL
            cases eh
            rw [HAt.out] at ct1 ct2
            obtain ⟨b1, hbb1⟩ : ∃ a, (l.getD k (0, 0)).1 = a := ⟨_, rfl⟩
            obtain ⟨b2, hbb2⟩ : ∃ a, (l.getD k (0, 0)).2 = a := ⟨_, rfl⟩
            have HB2' : Hid (l.getD k (0, 0) = (b1, b2)) := by show _ = _; rw [← hbb1, ← hbb2]
            rw [hbb1] at ck1
            rw [hbb2] at ck2
            clear hbb1 hbb2
            obtain ⟨z, hz⟩ : ∃ z, Route.wait n rs (a1, a2) (b1, b2) = z := ⟨_, rfl⟩
            have HZ : Hid (Route.wait n rs (a1, a2) (b1, b2) = z) := hz
            have HWt : Hid (∀ m : Since wr, Calls Try.prog 47 #[p.val, .agg #[.int .i64 a1, .int .i64 a2], .agg #[.int .i64 b1, .int .i64 b2]] m.w fun e w' => e = .returned (.bool z) ∧ Below m.w.heap.size m.w w') := fun m => by
              have h := rwaits1_any ((HP2.out.below HBw.out).below m.h) HM.out a1 a2 b1 b2 HIn.out.1 HIn.out.2
              rw [hz] at h
              exact h
            obtain ⟨x0, x1, x2, x3, x4, x5, x6, x7, x8, x9, x10⟩ := HX2.out.below HBw.out
            have hne := Since.any wr
            have d0 := fun m : Since wr => m.cell x0
            have d1 := fun m : Since wr => m.cell x1
            have d2 := fun m : Since wr => m.cell x2
            have d3 := fun m : Since wr => m.cell x3
            have d4 := fun m : Since wr => m.cell x4
            have d5 := fun m : Since wr => m.cell x5
            have d6 := fun m : Since wr => m.cell x6
            have d7 := fun m : Since wr => m.cell x7
            have d8 := fun m : Since wr => m.cell x8
            have d9 := fun m : Since wr => m.cell x9
            have d10 := fun m : Since wr => m.cell x10
            have e0 := fun m : Since wr => m.cell ct1
            have e1 := fun m : Since wr => m.cell ct2
            have e2 := fun m : Since wr => m.cell ck1
            have e3 := fun m : Since wr => m.cell ck2
            clear x0 x1 x2 x3 x4 x5 x6 x7 x8 x9 x10 ct1 ct2 ck1 ck2 hz hB7 ch1 ch2
            cases z with
            | true =>
              go_wp2_with fail
              refine region_since (u := wr) (by kernel_rfl) (by kernel_rfl) (Below.refl _ _) ?_
              repeat (go_big_quiet_step (first | (go_at_call 47; exact Since.calls _ (HWt.out _))))
              refine wpQuiet_nil ?_
              intro _ hw'
              obtain ⟨nq, hw2⟩ := hw'
              subst hw2
              have HBq : Hid (Below Wi.heap.size Wi nq.w) := HB7.out.trans (nq.h.mono hsz7)
              have HOq : Hid (nq.w.ownsRow Wi.heap.size 3 1 u6 (Route.part n rs l (a1, a2) k).length (zcells (Route.part n rs l (a1, a2) k))) := owns_below HO7.out nq.h
              have hszq : Wi.heap.size ≤ nq.w.heap.size := HBq.out.size
              clear hne d0 d1 d2 d3 d4 d5 d6 d7 d8 d9 d10 e0 e1 e2 e3
              obtain ⟨Wq, hWq⟩ : ∃ Wq, nq.w = Wq := ⟨_, rfl⟩
              rw [hWq] at HBq HOq hszq ⊢
              clear hWq
              have HA : Hid (Route.part n rs l (a1, a2) k ++ [(k : Int)] = Route.part n rs l (a1, a2) (k + 1)) := Route.part_hit (by rw [HB2'.out]; exact HZ.out)
              go_wp2_with (at_builtin; refine wpList_append_z rfl (.tmp 35) (.tmp 37) rfl Wi.heap.size u6 (Route.part n rs l (a1, a2) k) rfl (owns_below HOq.out (fresh _ _)) (by simp; omega) (some ⟨Wq.heap.size, 0, none⟩) 1 1 [(k : Int)] rfl (zr_one Wq _) (fun e => by cases e) (by omega) _ HA.out ?_; intro v8 w8 hown8 hB8)
              go_roundw
              case rel =>
                have R1 : Below Wi.heap.size Wi w8 := (HBq.out.alloc hszq _).trans hB8
                first | exact ⟨k + 1, by omega, by go_num, hown8, R1⟩ | ((repeat apply Exists.intro); exact ⟨⟨k + 1, by omega, by go_num, hown8, R1⟩, rfl⟩)
              case measure => simp [intOf]; omega
            | false =>
              go_wp2_with fail
              refine region_since (u := wr) (by kernel_rfl) (by kernel_rfl) (Below.refl _ _) ?_
              repeat (go_big_quiet_step (first | (go_at_call 47; exact Since.calls _ (HWt.out _))))
              refine wpQuiet_nil ?_
              intro _ hw'
              obtain ⟨nq, hw2⟩ := hw'
              subst hw2
              have HBq : Hid (Below Wi.heap.size Wi nq.w) := HB7.out.trans (nq.h.mono hsz7)
              have HOq : Hid (nq.w.ownsRow Wi.heap.size 3 1 u6 (Route.part n rs l (a1, a2) k).length (zcells (Route.part n rs l (a1, a2) k))) := owns_below HO7.out nq.h
              have hszq : Wi.heap.size ≤ nq.w.heap.size := HBq.out.size
              clear hne d0 d1 d2 d3 d4 d5 d6 d7 d8 d9 d10 e0 e1 e2 e3
              obtain ⟨Wq, hWq⟩ : ∃ Wq, nq.w = Wq := ⟨_, rfl⟩
              rw [hWq] at HBq HOq hszq ⊢
              clear hWq
              have HA : Hid (Route.part n rs l (a1, a2) (k + 1) = Route.part n rs l (a1, a2) k) := Route.part_miss (by rw [HB2'.out]; exact HZ.out)
              go_wp2_with fail
              go_roundw
              case rel =>
                have R1 := HOq.out
                rw [← HA.out] at R1
                first | exact ⟨k + 1, by omega, by go_num, R1, HBq.out⟩ | ((repeat apply Exists.intro); exact ⟨⟨k + 1, by omega, by go_num, R1, HBq.out⟩, rfl⟩)
              case measure => simp [intOf]; omega
          · obtain rfl : k = L := by omega
            have HRw : Hid (Route.part n rs l (a1, a2) k = Route.row n rs l t) := by
              show _ = _
              rw [← Route.part_row, HAt.out, HLl.out]
            rw [HRw.out] at HO7 hpl
            have HR7 : Hid (Rb wr w2.heap.size u4 t ((Route.rowsOf n rs l).take t) vs) := HR6.out.sans (F := fun _ => False) (Sans.of_below HB7.out) (fun _ _ e => e)
            obtain ⟨a18, cap18, hv18, hz18, hc18, hm18, hn18, hg18⟩ := zr_of_owns HO7.out
            subst hv18
            have HRow : Hid (RowA wr w2.heap.size (u4 : Value).ownBlock (.slice a18 (Route.row n rs l t).length cap18) (Route.row n rs l t)) := by
              refine ⟨a18, cap18, rfl, hz18, hc18, hm18, hn18, fun ad e => ?_⟩
              rcases hg18 with ⟨h1, _⟩ | ⟨g, h1, h2, h3⟩
              · rw [h1] at e; cases e
              · rw [h1] at e
                cases e
                refine ⟨Nat.le_trans hsz6 h2, h3, fun e2 => ?_⟩
                have := (HR6.out.own.lt _ e2).2
                simp only at this
                omega
            have HRs : Hid ((Route.rowsOf n rs l).take t ++ [Route.row n rs l t] = (Route.rowsOf n rs l).take (t + 1)) := Route.rowsOf_take (by have := HLl.out; omega)
            have HBt : Hid (Below w2.heap.size w2 wr) := HB6.out.trans (HB7.out.mono hsz6)
            have hsz8 : w2.heap.size ≤ wr.heap.size := HBt.out.size
            have HT6 : Hid (t ≤ 36) := by show _ ≤ _; omega
            clear hz18 hg18 hc18 hm18 hn18 hB7 ch1 ch2 htI
            obtain ⟨rl, hrl⟩ : ∃ rl, (Route.row n rs l t).length = rl := ⟨_, rfl⟩
            rw [hrl] at HRow ⊢
            clear hrl hpl
            have hkk : ¬ (k : Int) < (k : Int) := by omega
            go_wp2_with (at_builtin; refine wpList_append_v rfl (.tmp 39) (.tmp 41) 25 23 rfl (.slice none 0 0) 1 24 Try.underlying25 infoR rfl (by decide) w2.heap.size u4 t vs rfl (owns_below HR7.out.own (fresh _ _)) (by simp; omega) (some ⟨wr.heap.size, 0, none⟩) 1 1 [.slice a18 rl cap18] rfl rfl (fun e => by cases e) (.inr ⟨_, rfl, row_cell wr _⟩) (fun u hu => by rw [List.mem_singleton] at hu; rw [hu]; rfl) (by have := HT6.out; unfold maxLen; omega) (by have := HT6.out; omega) ?_; intro v' wz hown hBz hgz hat; have hRb := HR7.out.push HRow.out hown hgz hat; rw [HRs.out] at hRb; have HRb : Hid (Rb wz w2.heap.size v' (t + 1) ((Route.rowsOf n rs l).take (t + 1)) (vs ++ [.slice a18 rl cap18])) := hRb; have HB9 : Hid (Below w2.heap.size w2 wz) := (HBt.out.alloc hsz8 _).trans hBz; clear hRb hown hBz hgz hat)
            go_roundw
            case rel => first | exact ⟨t + 1, _, by omega, by go_num, HRb.out, HB9.out⟩ | ((repeat apply Exists.intro); exact ⟨⟨by omega, by go_num, HRb.out, HB9.out⟩, rfl⟩)
            case measure => simp [intOf]; omega
      · obtain rfl : t = L := by omega
        go_wp2_with fail
        go_ret
        have hrl : (Route.rowsOf n rs l).length = t := by rw [Route.rowsOf_len]; exact HLl.out
        have hR := HR6.out
        rw [List.take_of_length_le (by omega)] at hR
        refine ⟨_, vs, rfl, by rw [hrl]; exact hR.mono (by omega), HB2.out.trans (HB6.out.mono (by omega))⟩
end Go.Proofs.Ytphaaolnmbadcaa
