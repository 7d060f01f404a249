/-
  The law PlanEdges (package shunterlaw12), walked. Conditions: that package plan comes to what PlanSpec says.
-/
import Derived.Test.YtiikjlohfbaedaaPlanKnown
import Derived.Test.YtiikjlohfbaedaaPlanMake
import Derived.Deep.DeepCutAuto
import Derived.Deep.AppendLies
namespace Go.Proofs.Ytiikjlohfbaedaa
open Go.ChangeShapes Go.WideShapes Go.ChangeAt Go.RowKit
set_option linter.unusedVariables false

/-- append of pairs, inside a statement whose order Go leaves open -/
theorem step_append_p {w : World} {ops : Array Oper} {o : Oper} {a : Act} {K : Act → World → Prop} {Q : Exit → Act → World → Prop} {E : Prop} (hgd : o.guard = none) (s x : Operand) (t e : TypeId)
    (ho : o.op = .call { callee := .builtin .append, args := #[s, x], argTypes := #[t, t] }) (ht : Try.prog.underlying t = some (.slice e)) (hinfo : (Try.prog.info? e).map (fun i => (i.zero, i.size, i.bytes)) = some (some (.agg #[.int .i64 0, .int .i64 0]), 2, 16)) (base : Nat)
    (v : Value) (l : List (Int × Int)) (hs : a.eval s = v) (hown : w.ownsRow base e 2 v l.length (pcells l)) (hbase : base ≤ w.heap.size)
    (ad : Addr) (m c : Nat) (new : List (Int × Int)) (hx : a.eval x = .slice (some ad) m c) (h2 : Pr w (some ad) m new) (hm : l.length + m ≤ 8796093022208) (l3 : List (Int × Int)) (hl3 : l ++ new = l3)
    (h : ∀ v' w', w'.ownsRow base e 2 v' l3.length (pcells l3) → Below base w w' → K (a.put o.dst v') w') : if Region.wanted o (yielded ops a.tmps) = true then Oper.wp Try.prog o a w K Q else E := by
  have hw : Region.wanted o (yielded ops a.tmps) = true := by simp [Region.wanted, hgd]
  rw [if_pos hw]
  obtain ⟨i0, hi, hz0, hz1, hz2⟩ := info_parts hinfo
  have hl2 := h2.1
  refine wp_append_own w s x t ho base e i0 (.agg #[.int .i64 0, .int .i64 0]) 2 16 ht hi hz0 hz1 hz2 rfl (by decide) v l.length (pcells l) hs hown ad m c (pcells new) hx (by rw [pcells_len]; omega) ?_ (pcells_one new) (by unfold maxLen; omega) (by omega) hbase ?_
  · intro j u hu
    have hj : j < new.length * 2 := by
      have := (List.getElem?_eq_some_iff.1 hu).1
      rwa [pcells_len] at this
    have hp := pcells_at new (j / 2) (by omega)
    rcases h2.2.2 with h0 | ⟨b, off, e, hlt, hc⟩
    · omega
    · cases e
      have hcj := hc (j / 2) (by omega)
      rw [add_lit, ← hu]
      rcases Nat.mod_two_eq_zero_or_one j with e0 | e0
      · have ej : j = j / 2 * 2 := by omega
        have h3 := hcj.1.trans hp.1.symm
        rw [← ej] at h3
        exact h3
      · have ej : j = j / 2 * 2 + 1 := by omega
        have h3 := hcj.2.trans hp.2.symm
        rw [Nat.add_assoc, ← ej] at h3
        exact h3
  · intro v' w' hown' hg hnil
    rw [pcells_append, show l.length + m = (l ++ new).length by rw [List.length_append]; omega, hl3] at hown'
    exact h v' w' hown' ((Below.refl base w).grown hg hbase (fun k hk => (hown.lt k hk).1))
theorem may_edges {q : Plan.Num} {es : List (Int × Int)} {ws : List Int} {ns : List Nat} (h : ¬ ((∀ e ∈ es, Plan.Good q.nodes e) ∧ es.Nodup ∧ es.length ≤ 15)) : Plan.errno (Plan.may q es ws ns) = 120 := by
  have : Plan.may q es ws ns = false := by
    rw [← Bool.not_eq_true]
    intro hm
    unfold Plan.may at hm
    simp only [Bool.and_eq_true, decide_eq_true_eq] at hm
    exact h ((Plan.edgesOk_iff _ _).1 hm.1.1.1.1.2)
  rw [this]
  rfl
theorem may_turned {q : Plan.Num} {es : List (Int × Int)} {ws : List Int} {ns : List Nat} (h : Plan.errno (Plan.may q es ws ns) = 0) : Plan.errno (Plan.may q es.reverse ws ns) = 0 ∧ (∀ e ∈ es, Plan.Good q.nodes e) ∧ es.Nodup ∧ es.length ≤ 15 := by
  have hm : Plan.may q es ws ns = true := by
    cases hb : Plan.may q es ws ns with
    | true => rfl
    | false => rw [hb] at h; simp [Plan.errno] at h
  have hk : Plan.edgesOk q.nodes es = true := by
    unfold Plan.may at hm
    simp only [Bool.and_eq_true, decide_eq_true_eq] at hm
    exact hm.1.1.1.1.2
  have h3 := (Plan.edgesOk_iff _ _).1 hk
  refine ⟨?_, h3⟩
  have hr : Plan.edgesOk q.nodes es.reverse = true := (Plan.edgesOk_iff _ _).2 ⟨fun e he => h3.1 e (List.mem_reverse.1 he), List.pairwise_reverse.2 (h3.2.1.imp fun h => Ne.symm h), by rw [List.length_reverse]; exact h3.2.2⟩
  have : Plan.may q es.reverse ws ns = true := by
    unfold Plan.may at hm ⊢
    rw [hk] at hm
    rw [hr]
    exact hm
  rw [this]
  rfl
theorem bad_pair {pN : Int} {N r : Nat} (hN : pN = (N : Nat) ∧ 2 ≤ N ∧ N ≤ 6) (hr : r < 4) {X Y : Int} (h : ([(1, 1), (1, 0), (0, pN), (-1, 0)] : List (Int × Int)).getD r (0, 0) = (X, Y)) : ¬ Plan.Good pN (X, Y) ∧ I64 X ∧ I64 Y := by
  have hp : I64 pN := by unfold I64; omega
  match r, hr with
  | 0, _ =>
    simp at h
    obtain ⟨rfl, rfl⟩ := h
    exact ⟨fun g => by have := g.2.1; simp at this, by unfold I64; omega, by unfold I64; omega⟩
  | 1, _ =>
    simp at h
    obtain ⟨rfl, rfl⟩ := h
    exact ⟨fun g => by have := g.2.1; simp at this, by unfold I64; omega, by unfold I64; omega⟩
  | 2, _ =>
    simp at h
    obtain ⟨rfl, rfl⟩ := h
    exact ⟨fun g => by have := g.2.2; simp at this, by unfold I64; omega, hp⟩
  | 3, _ =>
    simp at h
    obtain ⟨rfl, rfl⟩ := h
    exact ⟨fun g => by have := g.1; simp at this, by unfold I64; omega, by unfold I64; omega⟩
theorem pr_four (w : World) (a0 a1 a2 a3 a4 a5 a6 a7 : Int) (t : TypeId) : Pr (w.alloc (.cells #[.int .i64 a0, .int .i64 a1, .int .i64 a2, .int .i64 a3, .int .i64 a4, .int .i64 a5, .int .i64 a6, .int .i64 a7] t)) (some ⟨w.heap.size, 0, none⟩) 4 [(a0, a1), (a2, a3), (a4, a5), (a6, a7)] := by
  refine ⟨rfl, by unfold maxLen; omega, .inr ⟨w.heap.size, 0, rfl, by simp, fun i hi => ?_⟩⟩
  match i, hi with
  | 0, _ => simp
  | 1, _ => simp
  | 2, _ => simp
  | 3, _ => simp
theorem rev_take {es : List (Int × Int)} {t : Nat} (h : t < es.length) : es.reverse.take (t + 1) = es.reverse.take t ++ [es.getD (es.length - 1 - t) (0, 0)] := by
  rw [take_pair (by rw [List.length_reverse]; exact h)]
  congr 2
  rw [List.getD_eq_getElem?_getD, List.getD_eq_getElem?_getD, List.getElem?_reverse h]
set_option maxHeartbeats 16000000 in
set_option maxRecDepth 100000 in
theorem planEdges_any (S : PlanSpec) (w : World) (z0 : Int) (w0 : (Lit.int .u8 z0).wf = true) (z1 : Int) (w1 : (Lit.int .u8 z1).wf = true) (z2 : Int) (w2 : (Lit.int .u8 z2).wf = true) (z3 : Int) (w3 : (Lit.int .u16 z3).wf = true) (z4 : Int) (w4 : (Lit.int .u8 z4).wf = true) :
    Calls Try.prog 3 #[.int .u8 z0, .int .u8 z1, .int .u8 z2, .int .u16 z3, .int .u8 z4] w fun e w' => e = .returned (.bool true) ∧ Below w.heap.size w w' := by
  have b0 := bounds_u8 w0
  have b1 := bounds_u8 w1
  have b2 := bounds_u8 w2
  have b3 := bounds_u16 w3
  have b4 := bounds_u8 w4
  obtain ⟨nodes, rfl⟩ := Int.eq_ofNat_of_zero_le b0.1
  obtain ⟨room, rfl⟩ := Int.eq_ofNat_of_zero_le b1.1
  obtain ⟨more, rfl⟩ := Int.eq_ofNat_of_zero_le b2.1
  obtain ⟨J, rfl⟩ := Int.eq_ofNat_of_zero_le b3.1
  obtain ⟨kk, rfl⟩ := Int.eq_ofNat_of_zero_le b4.1
  have h0 : nodes < 256 := by omega
  have h1 : room < 256 := by omega
  have h2 : more < 256 := by omega
  have h3 : J < 65536 := by omega
  have h4 : kk < 256 := by omega
  clear b0 b1 b2 b3 b4 w0 w1 w2 w3 w4
  go_enter Try.func3, Try.ntmps3
  go_wp2_with fail
  refine (make_any nodes room more J h0 h1 h2 h3 (oct0 w)).mono ?_
  rintro e w1 ⟨p, rfl, hp, hPl, hB1, hnil⟩
  have hE : Plan.errno (Plan.may p.num (Plan.full J (Plan.mkN nodes)) (Plan.mkW more (Plan.mkL more)) (List.replicate (Plan.mkN nodes) (Plan.mkN nodes))) = 0 := by rw [hp, Plan.mk_may]; rfl
  have HB1 : Hid (Below w.heap.size w w1) := hB1
  have hNn : p.nodes = (Plan.mkN nodes : Nat) := congrArg Plan.Num.nodes hp
  obtain ⟨hN1, hN2⟩ := Plan.mkN_b nodes
  generalize Plan.mkN nodes = N at hE hPl hNn hN1 hN2
  generalize Plan.full J N = es at hE hPl
  generalize Plan.mkW more (Plan.mkL more) = ws at hE hPl
  generalize List.replicate N N = ns at hE hPl
  have HT := may_turned hE
  obtain ⟨pN, pL, p3, p4, p5, p6, pB, pS, ea, en, ec, wa, wn, wc, na, nn, nc⟩ := p
  simp only [PV.num] at hnil hE hNn HT
  have hen : es.length = en := hPl.he.1
  have HEr : Hid (Plan.errno (Plan.may ⟨pN, pL, p3, p4, p5, p6, pB⟩ es ws ns) = 0) := hE
  have HTr : Hid (Plan.errno (Plan.may ⟨pN, pL, p3, p4, p5, p6, pB⟩ es.reverse ws ns) = 0 ∧ (∀ e ∈ es, Plan.Good pN e) ∧ es.Nodup ∧ es.length ≤ 15) := HT
  have hen15 : en ≤ 15 := by rw [← hen]; exact HT.2.2.2
  have HP1 : Hid (Pl w1 ⟨pN, pL, p3, p4, p5, p6, pB, pS, ea, en, ec, wa, wn, wc, na, nn, nc⟩ es ws ns) := hPl
  have HNn : Hid (pN = (N : Nat) ∧ 2 ≤ N ∧ N ≤ 6) := ⟨hNn, hN1, hN2⟩
  have HNil : Hid (ea = none → ec = 0) := hnil
  have HEn : Hid (es.length = en) := hen
  clear hp hPl hB1 hE hNn hnil HT hen hN1 hN2
  have HX0 : Hid (Bxd (w1.alloc (PV.obj ⟨pN, pL, p3, p4, p5, p6, pB, pS, ea, en, ec, wa, wn, wc, na, nn, nc⟩)) w1.heap.size ⟨pN, pL, p3, p4, p5, p6, pB, pS, ea, en, ec, wa, wn, wc, na, nn, nc⟩) := bxd_new w1 _
  have HF0 : Hid (Below w1.heap.size w1 (w1.alloc (PV.obj ⟨pN, pL, p3, p4, p5, p6, pB, pS, ea, en, ec, wa, wn, wc, na, nn, nc⟩))) := fresh _ _
  simp only [PV.obj] at HX0 HF0
  simp only [PV.val]
  go_upto_region 4 with (first
    | (go_at_call 11; refine (PlanSpec.check' S HP2.out 0 HEr.out).mono ?_; rintro e w3 ⟨rfl, hB3⟩; have HB3 : Hid (Below w1.heap.size w1 w3) := later HB2.out hB3; have HX3 : Hid (Bxd w3 w1.heap.size ⟨pN, pL, p3, p4, p5, p6, pB, pS, ea, en, ec, wa, wn, wc, na, nn, nc⟩) := HX2.out.below hB3; clear hB3)
    | (go_at_call 10; refine (known_any S _).mono ?_; rintro e w2 ⟨rfl, hB2⟩; have HB2 : Hid (Below w1.heap.size w1 w2) := later HF0.out hB2; have HX2 : Hid (Bxd w2 w1.heap.size ⟨pN, pL, p3, p4, p5, p6, pB, pS, ea, en, ec, wa, wn, wc, na, nn, nc⟩) := HX0.out.below hB2; have HP2 : Hid (Pl w2 ⟨pN, pL, p3, p4, p5, p6, pB, pS, ea, en, ec, wa, wn, wc, na, nn, nc⟩ es ws ns) := HP1.out.below HB2.out; obtain ⟨x0, x1, x2, x3, x4, x5, x6, x7, x8, x9, x10⟩ := HX2.out; simp only at x0 x1 x2 x3 x4 x5 x6 x7 x8 x9 x10; clear hB2))
  clear x0 x1 x2 x3 x4 x5 x6 x7 x8 x9 x10
  obtain ⟨x0, x1, x2, x3, x4, x5, x6, x7, x8, x9, x10⟩ := HX3.out
  simp only at x0 x1 x2 x3 x4 x5 x6 x7 x8 x9 x10
  have hb13 : w1.heap.size < w3.heap.size := cell_lt x0
  have x1' : ∀ o, (w3.alloc o).cell? ⟨w1.heap.size, 1, none⟩ = some (.slice ea en ec) := fun o => ((fresh w3 o).cell (p := ⟨w1.heap.size, 1, none⟩) hb13).trans x1
  have HXx : Hid (Bx (w3.alloc (PV.obj ⟨pN, pL, p3, p4, p5, p6, pB, pS, none, 0, 0, wa, wn, wc, na, nn, nc⟩)) w3.heap.size ⟨pN, pL, p3, p4, p5, p6, pB, pS, none, 0, 0, wa, wn, wc, na, nn, nc⟩ ∧ Below w3.heap.size w3 (w3.alloc (PV.obj ⟨pN, pL, p3, p4, p5, p6, pB, pS, none, 0, 0, wa, wn, wc, na, nn, nc⟩)) ∧ (w3.alloc (PV.obj ⟨pN, pL, p3, p4, p5, p6, pB, pS, none, 0, 0, wa, wn, wc, na, nn, nc⟩)).heap.size = w3.heap.size + 1) := ⟨bx_new w3 _, fresh _ _, World.size_alloc _ _⟩
  simp only [PV.obj] at HXx
  go_wp2_with fail
  clear x0 x1 x2 x3 x4 x5 x6 x7 x8 x9 x10 x1'
  generalize w3.alloc _ = W3 at HXx ⊢
  have HP3 : Hid (Pl W3 ⟨pN, pL, p3, p4, p5, p6, pB, pS, ea, en, ec, wa, wn, wc, na, nn, nc⟩ es ws ns) := HP1.out.below (later HB3.out HXx.out.2.1)
  have HX3b : Hid (Bxd W3 w1.heap.size ⟨pN, pL, p3, p4, p5, p6, pB, pS, ea, en, ec, wa, wn, wc, na, nn, nc⟩) := HX3.out.below HXx.out.2.1
  have HSz : Hid (W3.heap.size = w3.heap.size + 1) := HXx.out.2.2
  go_loopw [13] (fun iv wr => ∃ (t : Nat) (z : Int) (xa : Option Addr) (xc : Nat), t ≤ en ∧ z = (en : Int) - 1 - t ∧ iv = .int .i64 z ∧ Bx wr w3.heap.size ⟨pN, pL, p3, p4, p5, p6, pB, pS, xa, t, xc, wa, wn, wc, na, nn, nc⟩ ∧ wr.ownsRow W3.heap.size 33 2 (.slice xa t xc) (es.reverse.take t).length (pcells (es.reverse.take t)) ∧ Sans (fun j => j = w3.heap.size) W3 wr) (fun iv _ => (intOf iv + 1).toNat)
  case atStart => exact ⟨0, (en : Int) - 1, none, 0, Nat.zero_le _, by simp, rfl, HXx.out.1, World.ownsRow_nil _ _ _ _, Sans.refl _ _⟩
  case round =>
    obtain ⟨t, z, xa, xc, ht, hz, rfl, hX, hO, hS⟩ := hrel
    have HX : Hid (Bx wr w3.heap.size ⟨pN, pL, p3, p4, p5, p6, pB, pS, xa, t, xc, wa, wn, wc, na, nn, nc⟩) := hX
    have HO : Hid (wr.ownsRow W3.heap.size 33 2 (.slice xa t xc) (es.reverse.take t).length (pcells (es.reverse.take t))) := hO
    have HS : Hid (Sans (fun j => j = w3.heap.size) W3 wr) := hS
    have hsz := hS.size
    have HBr : Hid (Below w3.heap.size W3 wr) := hS.below (B := w3.heap.size) (by have := HSz.out; omega) (fun j e => by omega)
    have HXp : Hid (Bxd wr w1.heap.size ⟨pN, pL, p3, p4, p5, p6, pB, pS, ea, en, ec, wa, wn, wc, na, nn, nc⟩) := by
      have h := HX3b.out
      have e : ∀ o, wr.cell? ⟨w1.heap.size, o, none⟩ = W3.cell? ⟨w1.heap.size, o, none⟩ := fun o => HBr.out.cell (p := ⟨w1.heap.size, o, none⟩) hb13
      exact ⟨(e _).trans h.c0, (e _).trans h.c1, (e _).trans h.c2, (e _).trans h.c3, (e _).trans h.c4, (e _).trans h.c5, (e _).trans h.c6, (e _).trans h.c7, (e _).trans h.c8, (e _).trans h.c9, (e _).trans h.c10⟩
    have HPr : Hid (Pl wr ⟨pN, pL, p3, p4, p5, p6, pB, pS, ea, en, ec, wa, wn, wc, na, nn, nc⟩ es ws ns) := HP1.out.below (later HB3.out ((HXx.out.2.1.trans (HBr.out))))
    clear hX hO hS
    by_cases htn : t < en
    · obtain ⟨k, hk⟩ : ∃ k, en = k + t + 1 := ⟨en - 1 - t, by omega⟩
      obtain rfl : z = (k : Int) := by omega
      obtain ⟨be, oe, he, cA, cB⟩ := HPr.out.he.at (k := k) (by simp only; omega)
      simp only at he
      subst he
      obtain ⟨⟨A, B⟩, hy⟩ : ∃ y, es.getD k (0, 0) = y := ⟨_, rfl⟩
      rw [hy] at cA cB
      simp only at cA cB
      have HA : Hid (es.reverse.take t ++ [(A, B)] = es.reverse.take (t + 1)) := by
        show _ = _
        have hl := HEn.out
        rw [rev_take (by omega), show es.length - 1 - t = k by omega, hy]
      have hx1 := HX.out.x.c1
      have hp1 := HXp.out.c1
      simp only at hx1 hp1
      have hlt3 : w3.heap.size < wr.heap.size := cell_lt hx1
      have hlt1 : w1.heap.size < wr.heap.size := cell_lt hp1
      have HL : Hid ((es.reverse.take (t + 1)).length = t + 1) := by show _ = _; have hl := HEn.out; rw [List.length_take, List.length_reverse]; omega
      have HL0 : Hid ((es.reverse.take t).length = t) := by show _ = _; have hl := HEn.out; rw [List.length_take, List.length_reverse]; omega
      have HD : Hid (Below wr.heap.size wr (wr.drew.alloc (.cells #[.int .i64 A, .int .i64 B] 33))) := (Below.refl _ _).drew.alloc (Nat.le_refl _) _
      have HW3 : Hid (w3.heap.size < W3.heap.size) := by show _ < _; have := HSz.out; omega
      have HK : Hid (en = k + t + 1) := hk
      have hken : k < en := by omega
      clear hy hk hz htn
      go_wp2_with fail
      go_region_law (refine step_append_p rfl (.tmp 40) (.tmp 46) 23 33 rfl Try.underlying23 infoE W3.heap.size (.slice xa t xc) (es.reverse.take t) (by rfl) (owns_below HO.out HD.out) (Nat.le_trans hsz HD.out.size) ⟨wr.heap.size, 0, none⟩ 1 1 [(A, B)] (by rfl) (pr_one wr.drew A B _) (by rw [HL0.out]; omega) _ HA.out ?_; intro v' w2 hown hB2; have hX2 := (HX.out.below HD.out hlt3).below hB2 HW3.out; have q1 := hX2.x.c1; have f1 := hX2.f 1; simp only at q1; obtain ⟨a', cap', hv', _⟩ := pr_of_owns hown; rw [HL.out] at hv'; subst hv'; have HX8 := hX2; clear hX2)
      all_goals
        go_wp2_with fail
        go_roundw
        case rel =>
          have R1 := HX8.setE a' (t + 1) cap'
          have R2 := owns_sans hown (Sans.of_set (F := fun i => i = w3.heap.size) w2 ⟨w3.heap.size, 1, none⟩ (.slice a' (t + 1) cap') rfl) (fun i hi e => by have := HW3.out; omega)
          have R3 := ((HS.out.then (Sans.of_below HD.out)).grew (Nat.le_refl _) (Nat.le_trans hsz HD.out.size) hB2).stored 1 (.slice a' (t + 1) cap')
          have R4 : (k : Int) - 1 = (en : Int) - 1 - ((t + 1 : Nat) : Int) := by have := HK.out; omega
          first | exact ⟨t + 1, (k : Int) - 1, a', cap', by omega, R4, rfl, R1, R2, R3⟩ | ((repeat apply Exists.intro); exact ⟨⟨t + 1, (k : Int) - 1, a', cap', by omega, R4, rfl, R1, R2, R3⟩, rfl⟩)
        case measure => first | (simp [intOf]; done) | (simp [intOf]; omega)
    · obtain rfl : t = en := by omega
      obtain rfl : z = -1 := by omega
      clear hz htn
      obtain ⟨W4, hW4⟩ : ∃ W4, W4 = wr := ⟨_, rfl⟩
      subst hW4
      have HRx : Hid (es.reverse.take t = es.reverse) := by show _ = _; rw [← HEn.out, ← List.length_reverse]; exact List.take_length
      have HQx : Hid (Pl W4 ⟨pN, pL, p3, p4, p5, p6, pB, pS, xa, t, xc, wa, wn, wc, na, nn, nc⟩ es.reverse ws ns) := by
        have h := HPr.out
        obtain ⟨a1, c1, e1, z1, l1, m1, _, _⟩ := pr_of_owns HO.out
        rw [HRx.out, List.length_reverse, HEn.out] at e1 z1 l1
        cases e1
        exact ⟨z1, h.hw, h.hn, h.eb, h.wb, h.nb, ⟨l1, m1⟩, h.wc, h.nc, fun x hx => h.ei x (List.mem_reverse.1 hx), h.wi, h.qi⟩
      have HN2 : Hid (ea = none → t = 0 ∧ ec = 0) := fun e => by
        refine ⟨?_, HNil.out e⟩
        rcases HPr.out.he.2.2 with h | ⟨b, off, h, _⟩
        · exact h
        · simp only at h; rw [e] at h; cases h
      have hp0 := HXp.out.c0
      have hp1 := HXp.out.c1
      simp only at hp0 hp1
      obtain ⟨x0, x1, x2, x3, x4, x5, x6, x7, x8, x9, x10⟩ := HXp.out
      simp only at x0 x1 x2 x3 x4 x5 x6 x7 x8 x9 x10
      have hl1 : w1.heap.size < W4.heap.size := cell_lt hp0
      have hl3 : w3.heap.size < W4.heap.size := cell_lt HX.out.x.c0
      have hp1' : ∀ o, (W4.alloc o).cell? ⟨w1.heap.size, 1, none⟩ = some (.slice ea t ec) := fun o => ((fresh W4 o).cell (p := ⟨w1.heap.size, 1, none⟩) hl1).trans hp1
      have HY0 : Hid (Bx (W4.alloc (PV.obj ⟨pN, pL, p3, p4, p5, p6, pB, pS, none, 0, 0, wa, wn, wc, na, nn, nc⟩)) W4.heap.size ⟨pN, pL, p3, p4, p5, p6, pB, pS, none, 0, 0, wa, wn, wc, na, nn, nc⟩) := bx_new W4 _
      have HPa : Hid (Pr (W4.alloc (PV.obj ⟨pN, pL, p3, p4, p5, p6, pB, pS, none, 0, 0, wa, wn, wc, na, nn, nc⟩)) ea t es) := HPr.out.he.below (fresh _ _)
      simp only [PV.obj] at HY0 HPa
      go_upto_region 14 with (at_builtin; refine wpList_append_p rfl (.tmp 52) (.tmp 54) 23 33 rfl Try.underlying23 infoE (W4.heap.size + 1) (.slice none 0 0) [] rfl (World.ownsRow_nil _ _ _ _) (by simp) ea t ec es rfl HPa.out HN2.out (by simp; omega) es rfl ?_; intro v5 w5 hown5 hB5; obtain ⟨ya, yc, hv5, _⟩ := pr_of_owns hown5; rw [HEn.out] at hv5; subst hv5; have hY5 := HY0.out.below hB5 (by simp); have q1 := hY5.x.c1; have f1 := hY5.f 1; simp only at q1; have q0 : w5.cell? ⟨w1.heap.size, 0, none⟩ = some (.int .i64 pN) := (hB5.cell (p := ⟨w1.heap.size, 0, none⟩) (by simp only; omega)).trans (((fresh W4 _).cell (p := ⟨w1.heap.size, 0, none⟩) hl1).trans hp0); have HY5 := hY5; clear hY5)
      have HW6 : Hid (Bx ((w5.setCell ⟨W4.heap.size, 1, none⟩ (.slice ya t yc)).alloc (.cells #[.int .i64 1, .int .i64 1, .int .i64 1, .int .i64 0, .int .i64 0, .int .i64 pN, .int .i64 (-1), .int .i64 0] 33)) W4.heap.size ⟨pN, pL, p3, p4, p5, p6, pB, pS, ya, t, yc, wa, wn, wc, na, nn, nc⟩ ∧ Pr ((w5.setCell ⟨W4.heap.size, 1, none⟩ (.slice ya t yc)).alloc (.cells #[.int .i64 1, .int .i64 1, .int .i64 1, .int .i64 0, .int .i64 0, .int .i64 pN, .int .i64 (-1), .int .i64 0] 33)) (some ⟨w5.heap.size, 0, none⟩) 4 [(1, 1), (1, 0), (0, pN), (-1, 0)] ∧ Below W4.heap.size W4 ((w5.setCell ⟨W4.heap.size, 1, none⟩ (.slice ya t yc)).alloc (.cells #[.int .i64 1, .int .i64 1, .int .i64 1, .int .i64 0, .int .i64 0, .int .i64 pN, .int .i64 (-1), .int .i64 0] 33)) ∧ ((w5.setCell ⟨W4.heap.size, 1, none⟩ (.slice ya t yc)).alloc (.cells #[.int .i64 1, .int .i64 1, .int .i64 1, .int .i64 0, .int .i64 0, .int .i64 pN, .int .i64 (-1), .int .i64 0] 33)).ownsRow (W4.heap.size + 1) 33 2 (.slice ya t yc) es.length (pcells es)) := by
        have hs5 := hB5.size
        rw [World.size_alloc] at hs5
        have ha := HY5.setE ya t yc
        have hb : Below W4.heap.size W4 (w5.setCell ⟨W4.heap.size, 1, none⟩ (.slice ya t yc)) := ((fresh W4 _).trans (hB5.mono (by omega))).setCell (Nat.le_refl _) _
        have hs6 : (w5.setCell ⟨W4.heap.size, 1, none⟩ (.slice ya t yc)).heap.size = w5.heap.size := by simp [World.setCell]
        refine ⟨ha.below (fresh _ _) (by rw [hs6]; omega), ?_, hb.alloc (by rw [hs6]; omega) _, owns_below (owns_sans hown5 (Sans.of_set (F := fun i => i = W4.heap.size) w5 ⟨W4.heap.size, 1, none⟩ (.slice ya t yc) rfl) (fun i hi e => by omega)) (fresh _ _)⟩
        have h4 := pr_four (w5.setCell ⟨W4.heap.size, 1, none⟩ (.slice ya t yc)) 1 1 1 0 0 pN (-1) 0 33
        rw [hs6] at h4
        exact h4
      clear hp0 hp1 hp1' q0 q1 f1 x0 x1 x2 x3 x4 x5 x6 x7 x8 x9 x10
      generalize World.alloc (World.setCell w5 _ _) _ = W6 at HW6 ⊢
      obtain ⟨r, hr⟩ : ∃ r, kk % 4 = r := ⟨_, rfl⟩
      have hr4 : r < 4 := by omega
      have hr' : (kk : Int) % 4 = (r : Int) := by omega
      have hwk : IntKind.i64.wrap (kk : Int) = (kk : Int) := by rw [IntKind.wrap_i64]; omega
      have htm : (kk : Int).tmod 4 = (r : Int) := by rw [Int.tmod_eq_emod_of_nonneg (by omega)]; exact hr'
      have hri : (r : Int) < 4 := by omega
      clear hr hr'
      obtain ⟨bA, bB⟩ := pr_cell HW6.out.2.1 r hr4
      obtain ⟨⟨X, Y⟩, hxy⟩ : ∃ y, ([(1, 1), (1, 0), (0, pN), (-1, 0)] : List (Int × Int)).getD r (0, 0) = y := ⟨_, rfl⟩
      rw [hxy] at bA bB
      simp only [Nat.zero_add] at bA bB
      have hN := HNn.out
      have HXYb : Hid (¬ Plan.Good pN (X, Y) ∧ I64 X ∧ I64 Y) := bad_pair hN hr4 hxy
      have HXY : Hid (I64 X ∧ I64 Y) := HXYb.out.2
      have HMy : Hid (∀ (q1 q2 q3 q4 q5 q6 : Int), Plan.errno (Plan.may ⟨pN, q1, q2, q3, q4, q5, q6⟩ (es ++ [(X, Y)]) ws ns) = 120) := fun q1 q2 q3 q4 q5 q6 => may_edges (fun h => HXYb.out.1 (h.1 (X, Y) (List.mem_append_right _ (List.mem_singleton.2 rfl))))
      have HY6 : Hid (Bx W6 W4.heap.size ⟨pN, pL, p3, p4, p5, p6, pB, pS, ya, t, yc, wa, wn, wc, na, nn, nc⟩) := HW6.out.1
      have hy1 := HY6.out.x.c1
      simp only at hy1
      have hlt4 : W4.heap.size < W6.heap.size := cell_lt hy1
      have hlt5 : w5.heap.size < W6.heap.size := cell_lt bA
      have HD6 : Hid (Below W6.heap.size W6 (W6.drew.alloc (.cells #[.int .i64 X, .int .i64 Y] 33))) := (Below.refl _ _).drew.alloc (Nat.le_refl _) _
      have HL7 : Hid ((es ++ [(X, Y)]).length = t + 1) := by show _ = _; rw [List.length_append, HEn.out]; rfl
      clear hxy hN
      go_region_law (refine step_append_p rfl (.tmp 65) (.tmp 72) 23 33 rfl Try.underlying23 infoE (W4.heap.size + 1) (.slice ya t yc) es (by rfl) (owns_below HW6.out.2.2.2 HD6.out) (Nat.le_trans hlt4 HD6.out.size) ⟨W6.heap.size, 0, none⟩ 1 1 [(X, Y)] (by rfl) (pr_one W6.drew X Y _) (by rw [HEn.out]; omega) _ rfl ?_; intro v7 w7 hown7 hB7; have hX2 := (HY6.out.below HD6.out hlt4).below hB7 (Nat.lt_succ_self _); have qy := hX2.x.c1; have fy := hX2.f 1; simp only at qy; obtain ⟨ya2, yc2, hv7, _⟩ := pr_of_owns hown7; rw [HL7.out] at hv7; subst hv7; clear hX2)
      all_goals
        have hX7 := (HY6.out.below HD6.out hlt4).below hB7 (Nat.lt_succ_self _)
        have HW8 : Hid (Bx (w7.setCell ⟨W4.heap.size, 1, none⟩ (.slice ya2 (t + 1) yc2)) W4.heap.size ⟨pN, pL, p3, p4, p5, p6, pB, pS, ya2, t + 1, yc2, wa, wn, wc, na, nn, nc⟩ ∧ Below W4.heap.size W4 (w7.setCell ⟨W4.heap.size, 1, none⟩ (.slice ya2 (t + 1) yc2)) ∧ Pl (w7.setCell ⟨W4.heap.size, 1, none⟩ (.slice ya2 (t + 1) yc2)) ⟨pN, pL, p3, p4, p5, p6, pB, pS, ya2, t + 1, yc2, wa, wn, wc, na, nn, nc⟩ (es ++ [(X, Y)]) ws ns) := by
          have hb : Below W4.heap.size W4 (w7.setCell ⟨W4.heap.size, 1, none⟩ (.slice ya2 (t + 1) yc2)) := ((later HW6.out.2.2.1 HD6.out).trans (hB7.mono (by omega))).setCell (Nat.le_refl _) _
          have h := HPr.out.below hb
          obtain ⟨a1, c1, e1, z1, l1, m1, _, _⟩ := pr_of_owns (owns_sans hown7 (Sans.of_set (F := fun i => i = W4.heap.size) w7 ⟨W4.heap.size, 1, none⟩ (.slice ya2 (t + 1) yc2) rfl) (fun i hi e => by omega))
          rw [HL7.out] at e1 z1 l1
          cases e1
          exact ⟨hX7.setE ya2 (t + 1) yc2, hb, z1, h.hw, h.hn, by simp only; omega, h.wb, h.nb, ⟨l1, m1⟩, h.wc, h.nc, fun x hx => (List.mem_append.1 hx).elim (h.ei x) (fun hx => by rw [List.mem_singleton] at hx; rw [hx]; exact HXY.out), h.wi, h.qi⟩
        clear hX7 hown7 hB7 qy fy
        generalize World.setCell w7 _ _ = W8 at HW8 ⊢
        have HXp8 : Hid (Bxd W8 w1.heap.size ⟨pN, pL, p3, p4, p5, p6, pB, pS, ea, t, ec, wa, wn, wc, na, nn, nc⟩) := HXp.out.below HW8.out.2.1
        have HP8 : Hid (Pl W8 ⟨pN, pL, p3, p4, p5, p6, pB, pS, ea, t, ec, wa, wn, wc, na, nn, nc⟩ es ws ns) := HPr.out.below HW8.out.2.1
        obtain ⟨x0, x1, x2, x3, x4, x5, x6, x7, x8, x9, x10⟩ := HXp8.out
        simp only at x0 x1 x2 x3 x4 x5 x6 x7 x8 x9 x10
        have hl18 : w1.heap.size < W8.heap.size := cell_lt x0
        have hne18 : w1.heap.size ≠ W8.heap.size := by omega
        have hq1 := x1
        have hq1' : ∀ o, (W8.alloc o).cell? ⟨w1.heap.size, 1, none⟩ = some (.slice ea t ec) := fun o => ((fresh W8 o).cell (p := ⟨w1.heap.size, 1, none⟩) hl18).trans x1
        have HZ0 : Hid (Bx (W8.alloc (PV.obj ⟨pN, pL, p3, p4, p5, p6, pB, pS, none, 0, 0, wa, wn, wc, na, nn, nc⟩)) W8.heap.size ⟨pN, pL, p3, p4, p5, p6, pB, pS, none, 0, 0, wa, wn, wc, na, nn, nc⟩) := bx_new W8 _
        have HPz : Hid (Pr (W8.alloc (PV.obj ⟨pN, pL, p3, p4, p5, p6, pB, pS, none, 0, 0, wa, wn, wc, na, nn, nc⟩)) ea t es) := HP8.out.he.below (fresh _ _)
        simp only [PV.obj] at HZ0 HPz
        go_upto_region 19 with (first
          | (at_builtin; refine wpList_append_p rfl (.tmp 84) (.tmp 86) 23 33 rfl Try.underlying23 infoE (W8.heap.size + 1) (.slice za t zc) es rfl HO9.out HS9.out ea t ec es rfl HP9.out HN2.out (by rw [HEn.out]; omega) (es ++ es) rfl ?_; intro v10 w10 hown10 hB10; obtain ⟨za2, zc2, hv10, _⟩ := pr_of_owns hown10; rw [List.length_append, HEn.out] at hv10; subst hv10; have hZ10 := (HZ9.setE za t zc).below hB10 (by omega); clear q1 f1; have q1 := hZ10.x.c1; have f1 := hZ10.f 1; simp only at q1; have HZ10 := hZ10; clear hZ10)
          | (at_builtin; refine wpList_append_p rfl (.tmp 78) (.tmp 80) 23 33 rfl Try.underlying23 infoE (W8.heap.size + 1) (.slice none 0 0) [] rfl (World.ownsRow_nil _ _ _ _) (by simp) ea t ec es rfl HPz.out HN2.out (by simp; omega) es rfl ?_; intro v9 w9 hown9 hB9; obtain ⟨za, zc, hv9, _⟩ := pr_of_owns hown9; rw [HEn.out] at hv9; subst hv9; have hZ9 := HZ0.out.below hB9 (by simp); have q1 := hZ9.x.c1; have f1 := hZ9.f 1; simp only at q1; have HB89 : Hid (Below W8.heap.size W8 w9) := (fresh W8 _).trans (hB9.mono (by omega)); have pq : w9.cell? ⟨w1.heap.size, 1, none⟩ = some (.slice ea t ec) := (HB89.out.cell (p := ⟨w1.heap.size, 1, none⟩) hl18).trans hq1; have HZ9 := hZ9; have HO9 : Hid ((w9.setCell ⟨W8.heap.size, 1, none⟩ (.slice za t zc)).ownsRow (W8.heap.size + 1) 33 2 (.slice za t zc) es.length (pcells es)) := owns_sans hown9 (Sans.of_set (F := fun i => i = W8.heap.size) w9 ⟨W8.heap.size, 1, none⟩ (.slice za t zc) rfl) (fun i hi e => by omega); have HS9 : Hid (W8.heap.size + 1 ≤ (w9.setCell ⟨W8.heap.size, 1, none⟩ (.slice za t zc)).heap.size) := (by have h9 := hB9.size; rw [World.size_alloc] at h9; have h8 : (w9.setCell ⟨W8.heap.size, 1, none⟩ (.slice za t zc)).heap.size = w9.heap.size := (by simp [World.setCell]); rw [h8]; exact h9); have HP9 : Hid (Pr (w9.setCell ⟨W8.heap.size, 1, none⟩ (.slice za t zc)) ea t es) := HP8.out.he.below (HB89.out.setCell (Nat.le_refl _) _); clear hZ9 hown9))
        have HW11 : Hid (Bx (w10.setCell ⟨W8.heap.size, 1, none⟩ (.slice za2 (t + t) zc2)) W8.heap.size ⟨pN, pL, p3, p4, p5, p6, pB, pS, za2, t + t, zc2, wa, wn, wc, na, nn, nc⟩ ∧ Below W8.heap.size W8 (w10.setCell ⟨W8.heap.size, 1, none⟩ (.slice za2 (t + t) zc2)) ∧ Pl (w10.setCell ⟨W8.heap.size, 1, none⟩ (.slice za2 (t + t) zc2)) ⟨pN, pL, p3, p4, p5, p6, pB, pS, za2, t + t, zc2, wa, wn, wc, na, nn, nc⟩ (es ++ es) ws ns) := by
          have hb : Below W8.heap.size W8 (w10.setCell ⟨W8.heap.size, 1, none⟩ (.slice za2 (t + t) zc2)) := ((HB89.out.setCell (Nat.le_refl _) _).trans (hB10.mono (by omega))).setCell (Nat.le_refl _) _
          have h := HP8.out.below hb
          obtain ⟨a1, c1, e1, z1, l1, m1, _, _⟩ := pr_of_owns (owns_sans hown10 (Sans.of_set (F := fun i => i = W8.heap.size) w10 ⟨W8.heap.size, 1, none⟩ (.slice za2 (t + t) zc2) rfl) (fun i hi e => by omega))
          rw [List.length_append, HEn.out] at e1 z1 l1
          cases e1
          exact ⟨HZ10.setE za2 (t + t) zc2, hb, z1, h.hw, h.hn, by simp only; omega, h.wb, h.nb, ⟨l1, m1⟩, h.wc, h.nc, fun x hx => (List.mem_append.1 hx).elim (h.ei x) (h.ei x), h.wi, h.qi⟩
        clear q1 f1 pq hown10 hB10 hq1 hq1' x0 x1 x2 x3 x4 x5 x6 x7 x8 x9 x10
        generalize World.setCell w10 _ _ = W11 at HW11 ⊢
        have HXx11 : Hid (Bxd W11 w3.heap.size ⟨pN, pL, p3, p4, p5, p6, pB, pS, xa, t, xc, wa, wn, wc, na, nn, nc⟩) := (HX.out.x.below HW8.out.2.1).below HW11.out.2.1
        have HXy11 : Hid (Bxd W11 W4.heap.size ⟨pN, pL, p3, p4, p5, p6, pB, pS, ya2, t + 1, yc2, wa, wn, wc, na, nn, nc⟩) := HW8.out.1.x.below HW11.out.2.1
        have HXz11 : Hid (Bxd W11 W8.heap.size ⟨pN, pL, p3, p4, p5, p6, pB, pS, za2, t + t, zc2, wa, wn, wc, na, nn, nc⟩) := HW11.out.1.x
        have HXp11 : Hid (Bxd W11 w1.heap.size ⟨pN, pL, p3, p4, p5, p6, pB, pS, ea, t, ec, wa, wn, wc, na, nn, nc⟩) := HXp8.out.below HW11.out.2.1
        have HQx11 : Hid (Pl W11 ⟨pN, pL, p3, p4, p5, p6, pB, pS, xa, t, xc, wa, wn, wc, na, nn, nc⟩ es.reverse ws ns) := (HQx.out.below HW8.out.2.1).below HW11.out.2.1
        have HQy11 : Hid (Pl W11 ⟨pN, pL, p3, p4, p5, p6, pB, pS, ya2, t + 1, yc2, wa, wn, wc, na, nn, nc⟩ (es ++ [(X, Y)]) ws ns) := HW8.out.2.2.below HW11.out.2.1
        have HAll : Hid (Below w.heap.size w W11) := later HB1.out (later (later HB3.out (HXx.out.2.1.trans HBr.out)) (later HW8.out.2.1 HW11.out.2.1))
        obtain ⟨x0, x1, x2, x3, x4, x5, x6, x7, x8, x9, x10⟩ := HXx11.out
        simp only at x0 x1 x2 x3 x4 x5 x6 x7 x8 x9 x10
        by_cases ht0 : t = 0
        · subst ht0
          go_wp2_with (first
            | (go_at_call 11; refine (PlanSpec.check' S (HQy11.out.below HBw12.out) 120 (HMy.out _ _ _ _ _ _)).mono ?_; rintro e w13 ⟨rfl, hBw13⟩; have HBw13 : Hid (Below W11.heap.size W11 w13) := later HBw12.out hBw13; clear y0 y1 y2 y3 y4 y5 y6 y7 y8 y9 y10 hBw13; have pe := (HXp11.out.below HBw13.out).c1; simp only at pe)
            | (go_at_call 11; refine (PlanSpec.check' S HQx11.out 0 HTr.out.1).mono ?_; rintro e w12 ⟨rfl, hBw12⟩; have HBw12 : Hid (Below W11.heap.size W11 w12) := hBw12; clear x0 x1 x2 x3 x4 x5 x6 x7 x8 x9 x10 hBw12; obtain ⟨y0, y1, y2, y3, y4, y5, y6, y7, y8, y9, y10⟩ := HXy11.out.below HBw12.out; simp only at y0 y1 y2 y3 y4 y5 y6 y7 y8 y9 y10))
          go_ret
          exact ⟨rfl, later HAll.out HBw13.out⟩
        · have ht0' : ((t : Int) == 0) = false := by simp; omega
          have HMz : Hid (Plan.errno (Plan.may (PV.num ⟨pN, pL, p3, p4, p5, p6, pB, pS, za2, t + t, zc2, wa, wn, wc, na, nn, nc⟩) (es ++ es) ws ns) = 120) := may_edges (fun h => by
            have hnd := (List.nodup_append.1 h.2.1).2.2
            have hl := HEn.out
            exact hnd _ (Plan.edge_mem (es := es) (k := 0) (by omega)) _ (Plan.edge_mem (es := es) (k := 0) (by omega)) rfl)
          go_wp2_with (first
            | (go_at_call 11; refine (PlanSpec.check' S (HW11.out.2.2.below HBw13.out) 120 HMz.out).mono ?_; rintro e w14 ⟨rfl, hBw14⟩; have HBw14 : Hid (Below W11.heap.size W11 w14) := later HBw13.out hBw14; clear u0 u1 u2 u3 u4 u5 u6 u7 u8 u9 u10 hBw14)
            | (go_at_call 11; refine (PlanSpec.check' S (HQy11.out.below HBw12.out) 120 (HMy.out _ _ _ _ _ _)).mono ?_; rintro e w13 ⟨rfl, hBw13⟩; have HBw13 : Hid (Below W11.heap.size W11 w13) := later HBw12.out hBw13; clear y0 y1 y2 y3 y4 y5 y6 y7 y8 y9 y10 hBw13; have pe := (HXp11.out.below HBw13.out).c1; simp only at pe; obtain ⟨u0, u1, u2, u3, u4, u5, u6, u7, u8, u9, u10⟩ := HXz11.out.below HBw13.out; simp only at u0 u1 u2 u3 u4 u5 u6 u7 u8 u9 u10)
            | (go_at_call 11; refine (PlanSpec.check' S HQx11.out 0 HTr.out.1).mono ?_; rintro e w12 ⟨rfl, hBw12⟩; have HBw12 : Hid (Below W11.heap.size W11 w12) := hBw12; clear x0 x1 x2 x3 x4 x5 x6 x7 x8 x9 x10 hBw12; obtain ⟨y0, y1, y2, y3, y4, y5, y6, y7, y8, y9, y10⟩ := HXy11.out.below HBw12.out; simp only at y0 y1 y2 y3 y4 y5 y6 y7 y8 y9 y10))
          go_ret
          exact ⟨rfl, later HAll.out HBw14.out⟩
end Go.Proofs.Ytiikjlohfbaedaa
