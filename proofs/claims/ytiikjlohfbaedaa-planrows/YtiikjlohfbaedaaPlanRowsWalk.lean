/-
  The law PlanRows (package shunterlaw12), walked. Conditions: that package plan comes to what PlanSpec says.
-/
import Derived.Test.YtiikjlohfbaedaaPlanMakesWalk
namespace Go.Proofs.Ytiikjlohfbaedaa
open Go.ChangeShapes Go.WideShapes Go.ChangeAt Go.RowKit
set_option linter.unusedVariables false

theorem Lr.cut {w : World} {a : Option Addr} {n m : Nat} {l : List Nat} (h : Lr w a n l) (hm : m ≤ n) : Lr w a m (l.take m) := by
  obtain ⟨h1, h2, h3⟩ := h
  refine ⟨by rw [List.length_take]; omega, by omega, ?_⟩
  rcases h3 with h3 | ⟨b, off, e, hlt, hc⟩
  · exact .inl (by omega)
  · refine .inr ⟨b, off, e, hlt, fun i hi => ?_⟩
    have : (l.take m).getD i 0 = l.getD i 0 := by simp [List.getD_eq_getElem?_getD, hi]
    rw [this]
    exact hc i (by omega)
/-- rows of the lengths that f tells -/
theorem lr_of_owns' {w : World} {base : Nat} {e : TypeId} {v : Value} {k : Nat} {vs : List Value} (f : Nat → Nat) (hk : vs.length = k) (h : w.ownsRow base e 1 v k vs) (hv : ∀ i x, vs[i]? = some x → Rv (f i) x) : ∃ a cap, v = .slice a k cap ∧ Lr w a k ((List.range k).map f) ∧ k ≤ cap ∧ cap ≤ maxLen ∧ (a = none → cap = 0) := by
  rcases h.2 with ⟨hv', h0⟩ | ⟨g, cap, cur, hv', hb, hg, hnc, hcm, hcs, htake⟩
  · subst hv'
    subst h0
    exact ⟨none, 0, rfl, Lr.nil, Nat.le_refl _, Nat.zero_le _, fun _ => rfl⟩
  · subst hv'
    have hlt : g < w.heap.size := by
      rcases Nat.lt_or_ge g w.heap.size with h' | h'
      · exact h'
      · simp [Array.getElem?_eq_none h'] at hg
    refine ⟨some ⟨g, 0, none⟩, cap, rfl, ⟨by simp, by omega, .inr ⟨g, 0, rfl, hlt, fun i hi => ?_⟩⟩, hnc, hcm, (fun e => by cases e)⟩
    have hc := h.cellAt i (by omega)
    have hx := List.getElem?_eq_getElem (show i < vs.length by omega)
    rw [hx] at hc
    obtain ⟨ra, rc, e, r⟩ := hv i _ hx
    rw [e] at hc
    have hg : ((List.range k).map f).getD i 0 = f i := by simp [List.getD_eq_getElem?_getD, hi]
    rw [hg, Nat.zero_add]
    exact ⟨ra, rc, hc, r⟩
theorem may_rows {q : Plan.Num} {es : List (Int × Int)} {ws : List Int} {ns : List Nat} (h : (ns.length : Int) ≠ q.nodes ∨ ∃ n ∈ ns, (n : Int) ≠ q.nodes) : Plan.errno (Plan.may q es ws ns) = 120 := by
  have : Plan.may q es ws ns = false := by
    rw [← Bool.not_eq_true]
    intro hm
    unfold Plan.may at hm
    simp only [Bool.and_eq_true, decide_eq_true_eq] at hm
    rcases h with h | ⟨n, hn, h⟩
    · exact h hm.1.2
    · exact h (of_decide_eq_true (List.all_eq_true.1 hm.2 n hn))
  rw [this]
  rfl
theorem rv_snoc {f : Nat → Nat} {vs : List Value} {t : Nat} {x : Value} (hl : vs.length = t) (h : ∀ i y, vs[i]? = some y → Rv (f i) y) (hx : Rv (f t) x) : ∀ i y, (vs ++ [x])[i]? = some y → Rv (f i) y := by
  intro i y hy
  by_cases hi : i < t
  · rw [List.getElem?_append_left (by omega)] at hy
    exact h i y hy
  · have hit : i = t := by
      have := (List.getElem?_eq_some_iff.1 hy).1
      rw [List.length_append] at this
      simp at this
      omega
    subst hit
    rw [List.getElem?_append_right (by omega), hl] at hy
    simp at hy
    rw [← hy]
    exact hx
theorem three (w : World) (p q r : PV) : Bx (((w.alloc p.obj).alloc q.obj).alloc r.obj) w.heap.size p ∧ Bx (((w.alloc p.obj).alloc q.obj).alloc r.obj) (w.heap.size + 1) q ∧ Bx (((w.alloc p.obj).alloc q.obj).alloc r.obj) (w.heap.size + 1 + 1) r ∧ Below w.heap.size w (((w.alloc p.obj).alloc q.obj).alloc r.obj) ∧ (((w.alloc p.obj).alloc q.obj).alloc r.obj).heap.size = w.heap.size + 3 := by
  have h2 := bx_new (w.alloc p.obj) q
  have h3 := bx_new ((w.alloc p.obj).alloc q.obj) r
  rw [World.size_alloc] at h2 h3
  rw [World.size_alloc] at h3
  exact ⟨((bx_new w p).below (fresh _ _) (by simp)).below (fresh _ _) (by simp only [World.size_alloc]; omega), h2.below (fresh _ _) (by simp), h3, later (later (fresh _ _) (fresh _ _)) (fresh _ _), by simp⟩
set_option maxHeartbeats 16000000 in
set_option maxRecDepth 100000 in
theorem planRows_any (S : PlanSpec) (w : World) (z0 : Int) (w0 : (Lit.int .u8 z0).wf = true) (z1 : Int) (w1 : (Lit.int .u8 z1).wf = true) (z2 : Int) (w2 : (Lit.int .u8 z2).wf = true) (z3 : Int) (w3 : (Lit.int .u16 z3).wf = true) (z4 : Int) (w4 : (Lit.int .u8 z4).wf = true) :
    Calls Try.prog 5 #[.int .u8 z0, .int .u8 z1, .int .u8 z2, .int .u16 z3, .int .u8 z4] w fun e w' => e = .returned (.bool true) ∧ Below w.heap.size w w' := by
  have b0 := bounds_u8 w0
  have b1 := bounds_u8 w1
  have b2 := bounds_u8 w2
  have b3 := bounds_u16 w3
  have b4 := bounds_u8 w4
  obtain ⟨nodes, rfl⟩ := Int.eq_ofNat_of_zero_le b0.1
  obtain ⟨room, rfl⟩ := Int.eq_ofNat_of_zero_le b1.1
  obtain ⟨more, rfl⟩ := Int.eq_ofNat_of_zero_le b2.1
  obtain ⟨J, rfl⟩ := Int.eq_ofNat_of_zero_le b3.1
  obtain ⟨v, rfl⟩ := Int.eq_ofNat_of_zero_le b4.1
  have h0 : nodes < 256 := by omega
  have h1 : room < 256 := by omega
  have h2 : more < 256 := by omega
  have h3 : J < 65536 := by omega
  have h4 : v < 256 := by omega
  clear b0 b1 b2 b3 b4 w0 w1 w2 w3 w4
  go_enter Try.func5, Try.ntmps5
  go_wp2_with fail
  refine (make_any nodes room more J h0 h1 h2 h3 (oct0 w)).mono ?_
  rintro e w1 ⟨p, rfl, hp, hPl, hB1, _⟩
  have hE := mk_errno hp J
  have HE : Hid (Plan.errno (Plan.may p.num (Plan.full J (Plan.mkN nodes)) (Plan.mkW more (Plan.mkL more)) (List.replicate (Plan.mkN nodes) (Plan.mkN nodes))) = 0) := hE
  have HB1 : Hid (Below w.heap.size w w1) := hB1
  have hNn : p.nodes = (Plan.mkN nodes : Nat) := congrArg Plan.Num.nodes hp
  obtain ⟨hN1, hN2⟩ := Plan.mkN_b nodes
  generalize Plan.mkN nodes = N at HE hPl hNn hN1 hN2
  generalize Plan.full J N = es at HE hPl
  generalize Plan.mkW more (Plan.mkL more) = ws at HE hPl
  obtain ⟨m, hm⟩ : ∃ m, N = m + 1 := ⟨N - 1, by omega⟩
  subst hm
  obtain ⟨pN, pL, p3, p4, p5, p6, pB, pS, ea, en, ec, wa, wn, wc, na, nn, nc⟩ := p
  have hnn : m + 1 = nn := by have := hPl.hn.1; rw [List.length_replicate] at this; exact this
  subst hnn
  obtain ⟨bn, on, ra0, rc0, he, _⟩ := hPl.hn.at (k := 0) (Nat.succ_pos _)
  simp only at he
  subst he
  have hnc := hPl.nc
  simp only at hnc hNn
  obtain ⟨hnc1, hnc2⟩ := hnc
  have HP1 : Hid (Pl w1 ⟨pN, pL, p3, p4, p5, p6, pB, pS, ea, en, ec, wa, wn, wc, some ⟨bn, on, none⟩, m + 1, nc⟩ es ws (List.replicate (m + 1) (m + 1))) := hPl
  have HNn : Hid (pN = ((m + 1 : Nat) : Int)) := hNn
  have HL1 : Hid (Lr w1 (some ⟨bn, on, none⟩) (m + 1) (List.replicate (m + 1) (m + 1))) := hPl.hn
  clear hp hPl hB1 hE hNn
  simp only [PV.val]
  have HT := three w1 ⟨pN, pL, p3, p4, p5, p6, pB, pS, ea, en, ec, wa, wn, wc, some ⟨bn, on, none⟩, m + 1, nc⟩ ⟨pN, pL, p3, p4, p5, p6, pB, pS, ea, en, ec, wa, wn, wc, some ⟨bn, on, none⟩, m, nc⟩ ⟨pN, pL, p3, p4, p5, p6, pB, pS, ea, en, ec, wa, wn, wc, none, 0, 0⟩
  have HT0 : Hid _ := HT
  clear HT
  simp only [PV.obj] at HT0
  go_wp2_with fail
  generalize ((w1.alloc _).alloc _).alloc _ = W0 at HT0 ⊢
  have HWs : Hid (W0.heap.size = w1.heap.size + 3) := HT0.out.2.2.2.2
  obtain ⟨i0, hi0⟩ : ∃ i0, v % (m + 1) = i0 := ⟨_, rfl⟩
  have hi0' : (v : Int) % ((m : Int) + 1) = (i0 : Int) := by rw [← hi0]; simp
  have HI0 : Hid (i0 < m + 1) := by show _ < _; rw [← hi0]; exact Nat.mod_lt _ (Nat.succ_pos _)
  clear hi0
  go_loopw [14, 15] (fun i _ wr => ∃ (t : Nat) (na' : Option Addr) (nc' : Nat) (vs : List Value), t ≤ m + 1 ∧ i = .int .i64 t ∧ vs.length = t ∧ (∀ i x, vs[i]? = some x → Rv (if i = i0 then m else m + 1) x) ∧ Bx wr (w1.heap.size + 1 + 1) ⟨pN, pL, p3, p4, p5, p6, pB, pS, ea, en, ec, wa, wn, wc, na', t, nc'⟩ ∧ wr.ownsRow W0.heap.size 24 1 (.slice na' t nc') t vs ∧ Sans (fun j => j = w1.heap.size + 1 + 1) W0 wr) (fun i _ _ => m + 1 - (intOf i).toNat)
  case atStart => exact ⟨0, none, 0, [], Nat.zero_le _, rfl, rfl, by simp, HT0.out.2.2.1, World.ownsRow_nil _ _ _ _, Sans.refl _ _⟩
  case round =>
    obtain ⟨t, na', nc', vs, ht, rfl, hvl, hvr, hX, hO, hS⟩ := hrel
    have HX : Hid (Bx wr (w1.heap.size + 1 + 1) ⟨pN, pL, p3, p4, p5, p6, pB, pS, ea, en, ec, wa, wn, wc, na', t, nc'⟩) := hX
    have HO : Hid (wr.ownsRow W0.heap.size 24 1 (.slice na' t nc') t vs) := hO
    have HS : Hid (Sans (fun j => j = w1.heap.size + 1 + 1) W0 wr) := hS
    have HV : Hid (vs.length = t ∧ ∀ i x, vs[i]? = some x → Rv (if i = i0 then m else m + 1) x) := ⟨hvl, hvr⟩
    have hsz := hS.size
    have HXp : Hid (Bx wr w1.heap.size ⟨pN, pL, p3, p4, p5, p6, pB, pS, ea, en, ec, wa, wn, wc, some ⟨bn, on, none⟩, m + 1, nc⟩) := HT0.out.1.sans hS (by omega)
    have HXx : Hid (Bx wr (w1.heap.size + 1) ⟨pN, pL, p3, p4, p5, p6, pB, pS, ea, en, ec, wa, wn, wc, some ⟨bn, on, none⟩, m, nc⟩) := HT0.out.2.1.sans hS (by omega)
    have HBw : Hid (Below w1.heap.size w1 wr) := HT0.out.2.2.2.1.trans (hS.below (B := w1.heap.size) (by have := HWs.out; omega) (fun j e => by omega))
    have hp10 := HXp.out.x.c10
    have hy10 := hX.x.c10
    simp only at hp10 hy10
    clear hX hO hS hvl hvr
    by_cases htm : t < m + 1
    · obtain ⟨bb, oo, ra', rc, e1, hcell, hrl, hrm, hrn⟩ := (HL1.out.below HBw.out).at htm
      cases e1
      have hrep : (List.replicate (m + 1) (m + 1)).getD t 0 = m + 1 := by simp [List.getD_eq_getElem?_getD, htm]
      rw [hrep] at hcell hrl
      obtain ⟨ra, rfl⟩ : ∃ ra, ra' = some ra := by
        cases ra' with
        | none => have := hrn rfl; omega
        | some ra => exact ⟨ra, rfl⟩
      clear hrn hrep
      by_cases hti : t = i0
      · have hti' : ((t : Int) == (i0 : Int)) = true := by simp; omega
        have HTI : Hid (t = i0) := hti
        clear hti
        have HLen : Hid ((vs ++ [Value.slice (some ra) m rc]).length = t + 1) := by show _ = _; rw [List.length_append, HV.out.1]; rfl
        have HR5 : Hid (∀ i x, (vs ++ [Value.slice (some ra) m rc])[i]? = some x → Rv (if i = i0 then m else m + 1) x) := rv_snoc HV.out.1 HV.out.2 (by rw [if_pos HTI.out]; exact ⟨some ra, rc, rfl, by omega, hrm, fun e => by cases e⟩)
        go_wp2_with (at_builtin; refine wpList_append_v rfl (.tmp 58) (.tmp 60) 25 24 rfl (.slice none 0 0) 1 24 Try.underlying25 infoR rfl (by decide) W0.heap.size (.slice na' t nc') t vs rfl (owns_below HO.out (fresh _ _)) (by simp; omega) _ 1 _ [.slice (some ra) m rc] rfl rfl (fun e => by cases e) (.inr ⟨_, rfl, row_cell wr _⟩) (fun x hx => by rw [List.mem_singleton] at hx; rw [hx]; rfl) (by unfold maxLen; omega) (by omega) ?_; intro v' w2 hown hB2 _ _; have hX2 := (HX.out.below (fresh wr _) (by have := HWs.out; omega)).below hB2 (by have := HWs.out; omega); have q10 := hX2.x.c10; have f10 := hX2.f 10; simp only at q10; obtain ⟨a', cap', hv', _⟩ := lr_of_owns' (fun i => if i = i0 then m else m + 1) HLen.out hown HR5.out; subst hv'; have HX8 := hX2; clear hX2)
        go_roundw
        case rel =>
          have R1 := HX8.setN a' (t + 1) cap'
          have R2 := owns_sans hown (Sans.of_set (F := fun i => i = w1.heap.size + 1 + 1) w2 ⟨w1.heap.size + 1 + 1, 10, none⟩ (.slice a' (t + 1) cap') rfl) (fun i hi e => by have := HWs.out; omega)
          have R3 := ((HS.out.then (Sans.alloc wr _)).grew (Nat.le_refl _) (by simp; omega) hB2).stored 10 (.slice a' (t + 1) cap')
          first | exact ⟨t + 1, a', cap', _, by omega, by go_num, HLen.out, HR5.out, R1, R2, R3⟩ | ((repeat apply Exists.intro); exact ⟨⟨t + 1, a', cap', _, by omega, by go_num, HLen.out, HR5.out, R1, R2, R3⟩, rfl⟩)
        case measure => simp [intOf]; omega
      · have hti' : ((t : Int) == (i0 : Int)) = false := by simp; omega
        have HTI : Hid (¬ t = i0) := hti
        clear hti
        have HLen : Hid ((vs ++ [Value.slice (some ra) (m + 1) rc]).length = t + 1) := by show _ = _; rw [List.length_append, HV.out.1]; rfl
        have HR5 : Hid (∀ i x, (vs ++ [Value.slice (some ra) (m + 1) rc])[i]? = some x → Rv (if i = i0 then m else m + 1) x) := rv_snoc HV.out.1 HV.out.2 (by rw [if_neg HTI.out]; exact ⟨some ra, rc, rfl, by omega, hrm, fun e => by cases e⟩)
        go_wp2_with (at_builtin; refine wpList_append_v rfl (.tmp 58) (.tmp 60) 25 24 rfl (.slice none 0 0) 1 24 Try.underlying25 infoR rfl (by decide) W0.heap.size (.slice na' t nc') t vs rfl (owns_below HO.out (fresh _ _)) (by simp; omega) _ 1 _ [.slice (some ra) (m + 1) rc] rfl rfl (fun e => by cases e) (.inr ⟨_, rfl, row_cell wr _⟩) (fun x hx => by rw [List.mem_singleton] at hx; rw [hx]; rfl) (by unfold maxLen; omega) (by omega) ?_; intro v' w2 hown hB2 _ _; have hX2 := (HX.out.below (fresh wr _) (by have := HWs.out; omega)).below hB2 (by have := HWs.out; omega); have q10 := hX2.x.c10; have f10 := hX2.f 10; simp only at q10; obtain ⟨a', cap', hv', _⟩ := lr_of_owns' (fun i => if i = i0 then m else m + 1) HLen.out hown HR5.out; subst hv'; have HX8 := hX2; clear hX2)
        go_roundw
        case rel =>
          have R1 := HX8.setN a' (t + 1) cap'
          have R2 := owns_sans hown (Sans.of_set (F := fun i => i = w1.heap.size + 1 + 1) w2 ⟨w1.heap.size + 1 + 1, 10, none⟩ (.slice a' (t + 1) cap') rfl) (fun i hi e => by have := HWs.out; omega)
          have R3 := ((HS.out.then (Sans.alloc wr _)).grew (Nat.le_refl _) (by simp; omega) hB2).stored 10 (.slice a' (t + 1) cap')
          first | exact ⟨t + 1, a', cap', _, by omega, by go_num, HLen.out, HR5.out, R1, R2, R3⟩ | ((repeat apply Exists.intro); exact ⟨⟨t + 1, a', cap', _, by omega, by go_num, HLen.out, HR5.out, R1, R2, R3⟩, rfl⟩)
        case measure => simp [intOf]; omega
    · obtain rfl : t = m + 1 := by omega
      have HQp : Hid (Pl wr ⟨pN, pL, p3, p4, p5, p6, pB, pS, ea, en, ec, wa, wn, wc, some ⟨bn, on, none⟩, m + 1, nc⟩ es ws (List.replicate (m + 1) (m + 1))) := HP1.out.below HBw.out
      have HQx : Hid (Pl wr ⟨pN, pL, p3, p4, p5, p6, pB, pS, ea, en, ec, wa, wn, wc, some ⟨bn, on, none⟩, m, nc⟩ es ws ((List.replicate (m + 1) (m + 1)).take m)) := by
        have h := HQp.out
        exact ⟨h.he, h.hw, h.hn.cut (Nat.le_succ m), h.eb, h.wb, by have := h.nb; simp only at this ⊢; omega, h.ec, h.wc, ⟨by simp only; omega, h.nc.2⟩, h.ei, h.wi, h.qi⟩
      obtain ⟨a'', cap'', e2, hlr, hlc, hlm, _⟩ := lr_of_owns' (fun i => if i = i0 then m else m + 1) HV.out.1 HO.out HV.out.2
      cases e2
      have HQy : Hid (Pl wr ⟨pN, pL, p3, p4, p5, p6, pB, pS, ea, en, ec, wa, wn, wc, na', m + 1, nc'⟩ es ws ((List.range (m + 1)).map (fun i => if i = i0 then m else m + 1))) := by
        have h := HQp.out
        exact ⟨h.he, h.hw, hlr, h.eb, h.wb, by simp only; omega, h.ec, h.wc, ⟨hlc, hlm⟩, h.ei, h.wi, h.qi⟩
      have HMx : Hid (Plan.errno (Plan.may (PV.num ⟨pN, pL, p3, p4, p5, p6, pB, pS, ea, en, ec, wa, wn, wc, some ⟨bn, on, none⟩, m, nc⟩) es ws ((List.replicate (m + 1) (m + 1)).take m)) = 120) := may_rows (.inl (by rw [List.length_take, List.length_replicate]; show ((min m (m + 1) : Nat) : Int) ≠ pN; rw [HNn.out]; omega))
      have HMy : Hid (Plan.errno (Plan.may (PV.num ⟨pN, pL, p3, p4, p5, p6, pB, pS, ea, en, ec, wa, wn, wc, na', m + 1, nc'⟩) es ws ((List.range (m + 1)).map (fun i => if i = i0 then m else m + 1))) = 120) := may_rows (.inr ⟨m, List.mem_map.2 ⟨i0, List.mem_range.2 HI0.out, by rw [if_pos rfl]⟩, by show (m : Int) ≠ pN; rw [HNn.out]; omega⟩)
      have HLp : Hid (w1.heap.size < wr.heap.size) := cell_lt HXp.out.x.c0
      have HLx : Hid (w1.heap.size + 1 < wr.heap.size) := cell_lt HXx.out.x.c0
      have HLy : Hid (w1.heap.size + 1 + 1 < wr.heap.size) := cell_lt HX.out.x.c0
      clear hlr hlc hlm
      go_wp2_with (first
        | (go_at_call 11; refine (PlanSpec.check' S (HQy.out.below HB7.out) 120 HMy.out).mono ?_; rintro e w8 ⟨rfl, hB8⟩; have HB8 : Hid (Below wr.heap.size wr w8) := later HB7.out hB8; clear u0 u1 u2 u3 u4 u5 u6 u7 u8 u9 u10 hB8)
        | (go_at_call 11; refine (PlanSpec.check' S (HQx.out.below HB6.out) 120 HMx.out).mono ?_; rintro e w7 ⟨rfl, hB7⟩; have HB7 : Hid (Below wr.heap.size wr w7) := later HB6.out hB7; clear y0 y1 y2 y3 y4 y5 y6 y7 y8 y9 y10; obtain ⟨u0, u1, u2, u3, u4, u5, u6, u7, u8, u9, u10⟩ := (HX.out.below HB7.out HLy.out).x; simp only at u0 u1 u2 u3 u4 u5 u6 u7 u8 u9 u10; clear hB7)
        | (go_at_call 11; refine (PlanSpec.check' S (HQp.out.below HB5.out) 0 HE.out).mono ?_; rintro e w6 ⟨rfl, hB6⟩; have HB6 : Hid (Below wr.heap.size wr w6) := later HB5.out hB6; clear x0 x1 x2 x3 x4 x5 x6 x7 x8 x9 x10; obtain ⟨y0, y1, y2, y3, y4, y5, y6, y7, y8, y9, y10⟩ := (HXx.out.below HB6.out HLx.out).x; simp only at y0 y1 y2 y3 y4 y5 y6 y7 y8 y9 y10; clear hB6)
        | (go_at_call 10; refine (known_any S _).mono ?_; rintro e w5 ⟨rfl, hB5⟩; have HB5 : Hid (Below wr.heap.size wr w5) := hB5; obtain ⟨x0, x1, x2, x3, x4, x5, x6, x7, x8, x9, x10⟩ := (HXp.out.below HB5.out HLp.out).x; simp only at x0 x1 x2 x3 x4 x5 x6 x7 x8 x9 x10; clear hB5))
      go_ret
      exact ⟨rfl, later HB1.out (later HBw.out HB8.out)⟩
end Go.Proofs.Ytiikjlohfbaedaa
