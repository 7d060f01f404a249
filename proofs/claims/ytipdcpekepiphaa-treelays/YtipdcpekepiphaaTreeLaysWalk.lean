/-
  The law TreeLays (package shunterlaw13), walked. Conditions: that package tree comes to what TreeSpec says.
-/
import Derived.Test.YtipdcpekepiphaaTreeJoin
import Derived.Test.YtipdcpekepiphaaTreeAlike
import Derived.Test.YtipdcpekepiphaaPlanSpec
namespace Go.Proofs.Ytipdcpekepiphaa
open Go.ChangeShapes Go.WideShapes Go.ChangeAt Go.RowKit
set_option linter.unusedVariables false

/-- what Lay's second answer is -/
def Tree.code (ps : List Int) : Int := if Tree.layOk ps then 0 else 120
theorem Tree.code_le (ps : List Int) : 0 ≤ Tree.code ps ∧ Tree.code ps ≤ 120 := by unfold Tree.code; split <;> omega
/-- what Lay's plan is -/
def Out (B : Nat) (p : PV) (ps ws : List Int) (q : PV) (w : World) : Prop := (Tree.layOk ps = true ∧ Laid B p ps ws q w) ∨ (Tree.layOk ps = false ∧ q = pz)
theorem Out.below {B : Nat} {p q : PV} {ps ws : List Int} {w w' : World} (h : Out B p ps ws q w) (k : Below w.heap.size w w') : Out B p ps ws q w' := by
  rcases h with ⟨h1, h2⟩ | h
  · exact .inl ⟨h1, h2.below k⟩
  · exact .inr h
theorem LayEnd.out {k : IntKind} {B : Nat} {p : PV} {ps ws : List Int} {e : Ending} {w' : World} (h : LayEnd k B p ps ws e w') : ∃ q : PV, e = .returned (.tuple #[q.val, .int k (Tree.code ps)]) ∧ Out B p ps ws q w' := by
  unfold Tree.code
  rcases h with ⟨h1, q, h2, h3⟩ | ⟨h1, h2⟩
  · rw [h1]; exact ⟨q, h2, .inl ⟨h1, h3⟩⟩
  · rw [h1]; exact ⟨pz, h2, .inr ⟨h1, rfl⟩⟩
theorem alk_laid {w : World} {B B' : Nat} {p x y : PV} {ps ws : List Int} (hb : ws.length ≤ 17592186044416) (ho : Tree.layOk ps = true) (h : Laid B p ps ws x w) (k : Laid B' p ps ws y w) : ∃ es ws rs, Alk w x y es ws rs := by
  have h5 : ps.length ≤ 5 := by
    unfold Tree.layOk at ho
    rw [Bool.and_eq_true] at ho
    exact (Tree.ok_parts ho.1).1
  have e1 := h.pr.1.1
  have n1 := h.mr.1.1
  rw [Tree.edges_len] at e1
  rw [Tree.rows_len] at n1
  refine ⟨Tree.edges ps, ws, Tree.rows ps, ?_⟩
  refine ⟨k.nodes.trans h.nodes.symm, k.lanes.trans h.lanes.symm, k.room.trans h.room.symm, k.queue.trans h.queue.symm, k.rounds.trans h.rounds.symm, k.every.trans h.every.symm, k.bag.trans h.bag.symm, k.start.trans h.start.symm, h.pr.1, k.pr.1, h.zr.1, k.zr.1, h.mr.1, k.mr.1, by omega, by rw [h.zr.2.1]; exact hb, by omega, fun j => ?_⟩
  by_cases hj : j < (Tree.rows ps).length
  · rw [List.getD_eq_getElem?_getD, List.getElem?_eq_getElem hj]
    unfold Tree.rows at hj ⊢
    simp only [List.getElem_map, Option.getD_some]
    rw [Tree.row_len]
    omega
  · rw [List.getD_eq_getElem?_getD, List.getElem?_eq_none (by omega)]
    simp
theorem alk_out {w : World} {B B' : Nat} {p x y : PV} {ps ws : List Int} (hb : ws.length ≤ 17592186044416) (h : Out B p ps ws x w) (k : Out B' p ps ws y w) : ∃ es ws rs, Alk w x y es ws rs := by
  rcases h with ⟨h1, h2⟩ | ⟨h1, rfl⟩
  · rcases k with ⟨k1, k2⟩ | ⟨k1, _⟩
    · exact alk_laid hb h1 h2 k2
    · rw [h1] at k1; cases k1
  · rcases k with ⟨k1, _⟩ | ⟨_, rfl⟩
    · rw [h1] at k1; cases k1
    · refine ⟨[], [], [], rfl, rfl, rfl, rfl, rfl, rfl, rfl, rfl, Pr.nil, Pr.nil, Zr.nil, Zr.nil, ?_, ?_, by simp [pz], by simp [pz], by simp [pz], by simp⟩ <;> exact ⟨rfl, by unfold maxLen; simp [pz], .inl rfl⟩
theorem alk_val {w : World} {p q : PV} (h : ∃ es ws rs, Alk w p q es ws rs) :
    Calls Try.prog 20 #[p.val, q.val] w fun e w' => e = .returned (.bool true) ∧ Below w.heap.size w w' := by
  obtain ⟨es, ws, rs, h⟩ := h
  exact alike_any h
theorem lay_out (S : TreeSpec) {p : PV} {es : List (Int × Int)} {ws : List Int} {ns : List Nat} {u : World} {a : Option Addr} {n c : Nat} {ps : List Int} (hp : ArgP u p es ws ns) (hz : ArgZ u a n c ps) :
    Calls Try.prog 12 #[p.val, .slice a n c] u fun e w' => ∃ q : PV, e = .returned (.tuple #[q.val, .int .u16 (Tree.code ps)]) ∧ Out u.heap.size p ps ws q w' ∧ Below u.heap.size u w' := by
  refine Calls.mono (S.lay hp hz) ?_
  rintro e w' ⟨hE, hB⟩
  obtain ⟨q, h1, h2⟩ := hE.out
  exact ⟨q, h1, h2, hB⟩
theorem rlay_out {p : PV} {es : List (Int × Int)} {ws : List Int} {ns : List Nat} {u : World} {a : Option Addr} {n c : Nat} {ps : List Int} (hp : ArgP u p es ws ns) (hz : ArgZ u a n c ps) :
    Calls Try.prog 19 #[p.val, .slice a n c] u fun e w' => ∃ q : PV, e = .returned (.tuple #[q.val, .int .i64 (Tree.code ps)]) ∧ Out u.heap.size p ps ws q w' ∧ Below u.heap.size u w' := by
  refine Calls.mono (rlay_any hp.pl hz.z hz.big hp.wn) ?_
  rintro e w' ⟨hE, hB⟩
  obtain ⟨q, h1, h2⟩ := hE.out
  exact ⟨q, h1, h2, hB⟩
theorem rlay_met {p : PV} {es : List (Int × Int)} {ws : List Int} {ns : List Nat} {T : List Int} {m : Nat} (hl : Tree.layOk T = true) (u : World) (oa : Option Addr) (oc : Nat) (hp : ArgP u p es ws ns) (hz : ArgZ u oa m oc T) :
    Calls Try.prog 19 #[.agg #[.int .i64 p.nodes, .slice p.ea p.en p.ec, .int .i64 p.lanes, .int .i64 p.room, .int .i64 p.queue, .int .i64 p.rounds, .int .i64 p.every, .int .i64 p.bag, .slice p.wa p.wn p.wc, .int .u16 p.start, .slice p.na p.nn p.nc], .slice oa m oc] u fun e w' => ∃ q : PV, e = .returned (.tuple #[q.val, .int .i64 0]) ∧ Laid u.heap.size p T ws q w' ∧ Below u.heap.size u w' := by
  refine Calls.mono (rlay_any hp.pl hz.z hz.big hp.wn) ?_
  rintro e w' ⟨hE, hB⟩
  obtain ⟨q, h1, h2⟩ := hE.yes hl
  exact ⟨q, h1, h2, hB⟩
set_option maxHeartbeats 4000000 in
set_option maxRecDepth 100000 in
theorem treeLays_any (S : TreeSpec) (w : World) (p : PV) (es : List (Int × Int)) (ws : List Int) (ns : List Nat) (hp : ArgP w p es ws ns) (a : Option Addr) (n c : Nat) (ps : List Int) (hz : ArgZ w a n c ps) (a2 : Option Addr) (n2 c2 : Nat) (l : List Nat) (ho : Octs w a2 n2 l) :
    Calls Try.prog 7 #[p.val, .slice a n c, .slice a2 n2 c2] w fun e w' => e = .returned (.bool true) ∧ Below w.heap.size w w' := by
  have HO : Hid (Octs w a2 n2 l) := ho
  have HP : Hid (ArgP w p es ws ns) := hp
  have HZ : Hid (ArgZ w a n c ps) := hz
  have hbig := hz.big
  have HWl : Hid (ws.length ≤ 17592186044416) := by have h := hp.pl.wb; rw [← hp.pl.hw.1] at h; exact h
  have HOk : Hid (Tree.layOk (Tree.ofL l) = true) := Tree.ofL_lay l
  obtain ⟨T, hT⟩ : ∃ T, Tree.ofL l = T := ⟨_, rfl⟩
  have HT : Hid (Tree.ofL l = T) := hT
  rw [hT] at HOk
  obtain ⟨m, hm⟩ : ∃ m, T.length = m := ⟨_, rfl⟩
  have HM : Hid (T.length = m) := hm
  obtain ⟨cz, hcz⟩ : ∃ cz, Tree.code ps = cz := ⟨_, rfl⟩
  have hc := Tree.code_le ps
  rw [hcz] at hc
  obtain ⟨hc0, hc1⟩ := hc
  have HC : Hid (Tree.code ps = cz) := hcz
  clear hp hz ho hT hm hcz
  unfold PV.val
  by_cases h50 : 50 < n
  · have h50' : (50 : Int) < n := by omega
    go_enter Try.func7, Try.ntmps7
    go_wp2_with (go_at_call 13; refine (tknown_any S _).mono ?_; rintro e w1 ⟨rfl, hB1⟩; have HB1 : Hid (Below w.heap.size w w1) := later (fresh _ _) hB1; clear hB1)
    go_ret
    exact ⟨rfl, HB1.out⟩
  have h50' : ¬ (50 : Int) < n := by omega
  go_enter Try.func7, Try.ntmps7
  go_wp2_with fail
  refine (heavy_any (p := p) (HP.out.pl.below (fresh _ _))).mono ?_
  rintro e w1 ⟨z, rfl, hB1⟩
  have HA1 : Hid (ArgP w1 p es ws ns) := (HP.out.below (fresh _ _)).below hB1
  have HX1 : Hid (Bxd w1 w.heap.size p) := (bxd_new w p).below hB1
  have HB1 : Hid (Below w.heap.size w w1) := later (fresh _ _) hB1
  clear hB1
  by_cases hz : 300 < z
  · go_wp2_with (go_at_call 13; refine (tknown_any S _).mono ?_; rintro e w2 ⟨rfl, hB2⟩; have HB2 : Hid (Below w.heap.size w w2) := later HB1.out hB2; clear hB2)
    go_ret
    exact ⟨rfl, HB2.out⟩
  go_wp2_with (go_at_call 13; refine (tknown_any S _).mono ?_; rintro e wk ⟨rfl, hBk⟩; have HBk : Hid (Below w.heap.size w wk) := later HB1.out hBk; obtain ⟨x0, x1, x2, x3, x4, x5, x6, x7, x8, x9, x10⟩ := HX1.out.below hBk; have HAk : Hid (ArgP wk p es ws ns) := HA1.out.below hBk; have HZk : Hid (ArgZ wk a n c ps) := HZ.out.below HBk.out; have HXk : Hid (Bxd wk w.heap.size p) := HX1.out.below hBk; clear hBk)
  refine Calls.mono (lay_out S (p := p) HAk.out HZk.out) ?_
  rintro e w3 ⟨x, rfl, hx3, hB3⟩
  rw [HC.out]
  have HO3 : Hid (Out wk.heap.size p ps ws x w3) := hx3
  have HB3 : Hid (Below w.heap.size w w3) := later HBk.out hB3
  have HX3 : Hid (Bxd w3 w.heap.size p) := HXk.out.below hB3
  have HA3 : Hid (ArgP w3 p es ws ns) := HAk.out.below hB3
  have HZ3 : Hid (ArgZ w3 a n c ps) := HZk.out.below hB3
  clear hx3 hB3 HAk HZk HXk HBk HA1 HX1 HB1 HP HZ x0 x1 x2 x3 x4 x5 x6 x7 x8 x9 x10
  unfold PV.val
  go_upto_region 4 with fail
  have HXx : Hid (Bxd (w3.alloc x.obj) w3.heap.size x) := bxd_new _ _
  have hB4 : Below w3.heap.size w3 (w3.alloc x.obj) := fresh _ _
  have HX4 : Hid (Bxd (w3.alloc x.obj) w.heap.size p) := HX3.out.below hB4
  have HO4 : Hid (Out wk.heap.size p ps ws x (w3.alloc x.obj)) := HO3.out.below hB4
  have HA4 : Hid (ArgP (w3.alloc x.obj) p es ws ns) := HA3.out.below hB4
  have HZ4 : Hid (ArgZ (w3.alloc x.obj) a n c ps) := HZ3.out.below hB4
  have HB4 : Hid (Below w.heap.size w (w3.alloc x.obj)) := later HB3.out hB4
  clear hB4 HX3 HO3 HA3 HZ3 HB3
  simp only [PV.obj] at HXx HX4 HO4 HA4 HZ4 HB4
  generalize w3.alloc _ = W1 at HXx HX4 HO4 HA4 HZ4 HB4 ⊢
  generalize w3.heap.size = gx at HXx ⊢
  generalize wk.heap.size = Bx1 at HO4
  obtain ⟨x0, x1, x2, x3, x4, x5, x6, x7, x8, x9, x10⟩ := HX4.out
  go_wp2_with fail
  refine Calls.mono (rlay_out (p := p) HA4.out HZ4.out) ?_
  rintro e w5 ⟨y, rfl, hy5, hB5⟩
  rw [HC.out]
  have HOy5 : Hid (Out W1.heap.size p ps ws y w5) := hy5
  have HOx5 : Hid (Out Bx1 p ps ws x w5) := HO4.out.below hB5
  have HB5 : Hid (Below w.heap.size w w5) := later HB4.out hB5
  have HX5 : Hid (Bxd w5 w.heap.size p) := HX4.out.below hB5
  have HXx5 : Hid (Bxd w5 gx x) := HXx.out.below hB5
  have HA5 : Hid (ArgP w5 p es ws ns) := HA4.out.below hB5
  clear hy5 hB5 HO4 HB4 HX4 HXx HA4 HZ4 x0 x1 x2 x3 x4 x5 x6 x7 x8 x9 x10
  generalize W1.heap.size = By1 at HOy5
  unfold PV.val
  go_upto_region 5 with fail
  have hB6 : Below w5.heap.size w5 (w5.alloc y.obj) := fresh _ _
  have HXy : Hid (Bxd (w5.alloc y.obj) w5.heap.size y) := bxd_new _ _
  have HXx : Hid (Bxd (w5.alloc y.obj) gx x) := HXx5.out.below hB6
  have HXp : Hid (Bxd (w5.alloc y.obj) w.heap.size p) := HX5.out.below hB6
  have HOx : Hid (Out Bx1 p ps ws x (w5.alloc y.obj)) := HOx5.out.below hB6
  have HOy : Hid (Out By1 p ps ws y (w5.alloc y.obj)) := HOy5.out.below hB6
  have HAp : Hid (ArgP (w5.alloc y.obj) p es ws ns) := HA5.out.below hB6
  have HBW : Hid (Below w.heap.size w (w5.alloc y.obj)) := later HB5.out hB6
  clear hB6 HX5 HOx5 HOy5 HA5 HB5 HXx5
  simp only [PV.obj] at HXy HXx HXp HOx HOy HAp HBW
  generalize w5.alloc _ = W at HXy HXx HXp HOx HOy HAp HBW ⊢
  generalize w5.heap.size = gy at HXy ⊢
  obtain ⟨gp, hgpe⟩ : ∃ gp, w.heap.size = gp := ⟨_, rfl⟩
  have HGp : Hid (w.heap.size = gp) := hgpe
  rw [hgpe] at HXp ⊢
  clear hgpe
  have hgp : gp < W.heap.size := cell_lt HXp.out.c0
  obtain ⟨x0, x1, x2, x3, x4, x5, x6, x7, x8, x9, x10⟩ := HXp.out
  go_cut [11, 12] (fun sa sb wx => ∃ (g : Nat) (q : PV), sa = .pointer (some ⟨g, 0, none⟩) ∧ sb = .int .u16 0 ∧ Bxd wx g q ∧ Laid W.heap.size p T ws q wx ∧ Below W.heap.size W wx)
  case first =>
    have HOf : Hid (∀ u : World, Below w.heap.size w u → Calls Try.prog 11 #[.slice a2 n2 c2] u fun e w' => ∃ oa oc, e = .returned (.slice oa m oc) ∧ ArgZ w' oa m oc T ∧ Below u.heap.size u w') := fun u hu => of_met HO.out HT.out HM.out u hu
    have HLy : Hid _ := fun (u : World) (oa : Option Addr) (oc : Nat) (hp : ArgP u p es ws ns) (hz : ArgZ u oa m oc T) => lay_met S HOk.out u oa oc hp hz
    have HBd0 : Hid (Below w.heap.size w W.drew) := later HBW.out (Below.refl _ _).drew
    have HBd1 : Hid (Below w.heap.size w (W.alloc pz.obj).drew) := later HBW.out (fresh _ _).drew
    have HW0 : Hid (Below W.heap.size W W.drew) := (Below.refl _ _).drew
    have HW1 : Hid (Below W.heap.size W (W.alloc pz.obj).drew) := (fresh _ _).drew
    have HbC0 : Hid (Bx (W.alloc pz.obj).drew W.heap.size pz) := (bx_new W pz).below (B := (W.alloc pz.obj).heap.size) (Below.refl _ _).drew (by simp)
    have HG : Hid (gp < W.heap.size) := hgp
    have HN0 : Hid (gp ≠ W.heap.size) := Nat.ne_of_lt hgp
    have HXd : Hid (Bxd W.drew gp p) := HXp.out.below HW0.out
    have HXd1 : Hid (Bxd (W.alloc pz.obj).drew gp p) := HXp.out.below HW1.out
    simp only [PV.obj, pz] at HBd1 HW1 HbC0 HXd1
    go_region_held3 (fun w' => w'.cell? ⟨gp, 0, none⟩ = some (Value.int .i64 p.nodes) ∧ w'.cell? ⟨gp, 1, none⟩ = some (Value.slice p.ea p.en p.ec) ∧ w'.cell? ⟨gp, 2, none⟩ = some (Value.int .i64 p.lanes) ∧ w'.cell? ⟨gp, 3, none⟩ = some (Value.int .i64 p.room) ∧ w'.cell? ⟨gp, 4, none⟩ = some (Value.int .i64 p.queue) ∧ w'.cell? ⟨gp, 5, none⟩ = some (Value.int .i64 p.rounds) ∧ w'.cell? ⟨gp, 6, none⟩ = some (Value.int .i64 p.every) ∧ w'.cell? ⟨gp, 7, none⟩ = some (Value.int .i64 p.bag) ∧ w'.cell? ⟨gp, 8, none⟩ = some (Value.slice p.wa p.wn p.wc) ∧ w'.cell? ⟨gp, 9, none⟩ = some (Value.int .u16 p.start) ∧ w'.cell? ⟨gp, 10, none⟩ = some (Value.slice p.na p.nn p.nc)) (first | with_reducible exact HX6.out.conj11 | with_reducible exact (keep11 HX6.out HN5.out _ _ _ _ _ _ _ _ _ _ _).conj11 | with_reducible exact (keep11 HX6.out HN0.out _ _ _ _ _ _ _ _ _ _ _).conj11 | with_reducible exact (HX6.out.below (fresh _ _)).conj11 | with_reducible exact HX5.out.conj11 | with_reducible exact (HX5.out.below (fresh _ _)).conj11 | with_reducible exact HXd.out.conj11 | with_reducible exact HXd1.out.conj11 | go_keep) (first | (go_at_call 12; refine Calls.mono (HLy.out _ oa oc (by first | exact HA5.out | exact HA5.out.below (fresh _ _)) (by first | exact HZ5.out | exact HZ5.out.below (fresh _ _))) ?_; rintro e w6 ⟨q, rfl, hL6, hB6⟩; have HL6 : Hid _ := hL6; have HB6 : Hid (Below W.heap.size W w6) := (by first | exact later HB5.out hB6 | exact later (later HB5.out (fresh _ _)) hB6); have HX6 : Hid (Bxd w6 gp p) := HXp.out.below HB6.out; (try (have HbB : Hid (Bx w6 w5.heap.size pz) := (bx_new w5 pz).below hB6 (by simp))); (try (have HbD : Hid (Bx w6 W.heap.size pz) := HbC.out.below hB6 (cell_lt HbC.out.x.c0))); (try (obtain ⟨y0, y1, y2, y3, y4, y5, y6, y7, y8, y9, y10⟩ := HbB.out.x; have yf := HbB.out.f; simp only [pz] at y0 y1 y2 y3 y4 y5 y6 y7 y8 y9 y10)); (try (obtain ⟨y0, y1, y2, y3, y4, y5, y6, y7, y8, y9, y10⟩ := HbD.out.x; have yf := HbD.out.f; simp only [pz] at y0 y1 y2 y3 y4 y5 y6 y7 y8 y9 y10)); clear hL6 hB6; obtain ⟨qN, q1, q2, q3, q4, q5, q6, q7, qa, qb, qc, qd, qe, qf, qg, qh, qi⟩ := q; simp only [PV.val]) | (go_at_call 11; refine Calls.mono (HOf.out _ (by first | exact HBd0.out | exact HBd1.out)) ?_; rintro e w5 ⟨oa, oc, rfl, hz5, hB5⟩; have HZ5 : Hid (ArgZ w5 oa m oc T) := hz5; have HB5 : Hid (Below W.heap.size W w5) := (by first | exact later HW0.out hB5 | exact later HW1.out hB5); have HN5 : Hid (gp ≠ w5.heap.size) := (by have := HB5.out.size; exact Nat.ne_of_lt (Nat.lt_of_lt_of_le HG.out this)); have HX5 : Hid (Bxd w5 gp p) := HXp.out.below HB5.out; have HA5 : Hid (ArgP w5 p es ws ns) := HAp.out.below HB5.out; (try (have HbC : Hid (Bx w5 W.heap.size pz) := HbC0.out.below hB5 (by simp))); clear hz5 hB5))
    · have J := join_new (q := ⟨qN, q1, q2, q3, q4, q5, q6, q7, qa, qb, qc, qd, qe, qf, qg, qh, qi⟩) HL6.out (by have := HB5.out.size; omega) HB6.out
      simp only [PV.obj] at J
      generalize w6.alloc _ = wx at J ⊢
      have hJ : Hid _ := J
      clear J HL6 HB6 HX6 HX5 HA5 HZ5 HB5
      go_wp2_with fail
      go_meet
      exact ⟨_, _, rfl, rfl, hJ.out⟩
    · have J := join_old (q := ⟨qN, q1, q2, q3, q4, q5, q6, q7, qa, qb, qc, qd, qe, qf, qg, qh, qi⟩) HbB.out HB5.out.size (by simp) HL6.out HB6.out
      simp only [lay11] at J
      generalize World.setCell _ _ _ = wx at J ⊢
      have hJ : Hid _ := J
      clear J HL6 HB6 HX6 HX5 HA5 HZ5 HB5
      go_wp2_with fail
      go_meet
      exact ⟨_, _, rfl, rfl, hJ.out⟩
    · have J := join_old (q := ⟨qN, q1, q2, q3, q4, q5, q6, q7, qa, qb, qc, qd, qe, qf, qg, qh, qi⟩) HbD.out (Nat.le_refl _) (cell_lt HbC.out.x.c0) HL6.out HB6.out
      simp only [lay11] at J
      generalize World.setCell _ _ _ = wx at J ⊢
      have hJ : Hid _ := J
      clear J HL6 HB6 HX6 HX5 HA5 HZ5 HB5
      go_wp2_with fail
      go_meet
      exact ⟨_, _, rfl, rfl, hJ.out⟩
  case rest =>
    obtain ⟨gz, z, rfl, rfl, hz0, hz1, hz2⟩ := hcut
    have HXz : Hid (Bxd wc gz z) := hz0
    have HLz : Hid (Laid W.heap.size p T ws z wc) := hz1
    replace HXy : Hid (Bxd wc gy y) := HXy.out.below hz2
    replace HXx : Hid (Bxd wc gx x) := HXx.out.below hz2
    replace HXp : Hid (Bxd wc gp p) := HXp.out.below hz2
    replace HOx : Hid (Out Bx1 p ps ws x wc) := HOx.out.below hz2
    replace HOy : Hid (Out By1 p ps ws y wc) := HOy.out.below hz2
    replace HAp : Hid (ArgP wc p es ws ns) := HAp.out.below hz2
    replace HBW : Hid (Below w.heap.size w wc) := later HBW.out hz2
    generalize W.heap.size = Bz at HLz
    clear hz0 hz1 hz2 hgp x0 x1 x2 x3 x4 x5 x6 x7 x8 x9 x10
    clear W
    rename World => W
    go_upto_region 6 with fail
    have hgp : gp < W.heap.size := cell_lt HXp.out.c0
    obtain ⟨x0, x1, x2, x3, x4, x5, x6, x7, x8, x9, x10⟩ := HXp.out
    go_cut [13, 14] (fun sa sb wx => ∃ (g : Nat) (q : PV), sa = .pointer (some ⟨g, 0, none⟩) ∧ sb = .int .i64 0 ∧ Bxd wx g q ∧ Laid W.heap.size p T ws q wx ∧ Below W.heap.size W wx)
    case first =>
      have HOf : Hid (∀ u : World, Below w.heap.size w u → Calls Try.prog 11 #[.slice a2 n2 c2] u fun e w' => ∃ oa oc, e = .returned (.slice oa m oc) ∧ ArgZ w' oa m oc T ∧ Below u.heap.size u w') := fun u hu => of_met HO.out HT.out HM.out u hu
      have HLy : Hid _ := fun (u : World) (oa : Option Addr) (oc : Nat) (hp : ArgP u p es ws ns) (hz : ArgZ u oa m oc T) => rlay_met HOk.out u oa oc hp hz
      have HBd0 : Hid (Below w.heap.size w W.drew) := later HBW.out (Below.refl _ _).drew
      have HBd1 : Hid (Below w.heap.size w (W.alloc pz.obj).drew) := later HBW.out (fresh _ _).drew
      have HW0 : Hid (Below W.heap.size W W.drew) := (Below.refl _ _).drew
      have HW1 : Hid (Below W.heap.size W (W.alloc pz.obj).drew) := (fresh _ _).drew
      have HbC0 : Hid (Bx (W.alloc pz.obj).drew W.heap.size pz) := (bx_new W pz).below (B := (W.alloc pz.obj).heap.size) (Below.refl _ _).drew (by simp)
      have HG : Hid (gp < W.heap.size) := hgp
      have HN0 : Hid (gp ≠ W.heap.size) := Nat.ne_of_lt hgp
      have HXd : Hid (Bxd W.drew gp p) := HXp.out.below HW0.out
      have HXd1 : Hid (Bxd (W.alloc pz.obj).drew gp p) := HXp.out.below HW1.out
      simp only [PV.obj, pz] at HBd1 HW1 HbC0 HXd1
      go_region_held3 (fun w' => w'.cell? ⟨gp, 0, none⟩ = some (Value.int .i64 p.nodes) ∧ w'.cell? ⟨gp, 1, none⟩ = some (Value.slice p.ea p.en p.ec) ∧ w'.cell? ⟨gp, 2, none⟩ = some (Value.int .i64 p.lanes) ∧ w'.cell? ⟨gp, 3, none⟩ = some (Value.int .i64 p.room) ∧ w'.cell? ⟨gp, 4, none⟩ = some (Value.int .i64 p.queue) ∧ w'.cell? ⟨gp, 5, none⟩ = some (Value.int .i64 p.rounds) ∧ w'.cell? ⟨gp, 6, none⟩ = some (Value.int .i64 p.every) ∧ w'.cell? ⟨gp, 7, none⟩ = some (Value.int .i64 p.bag) ∧ w'.cell? ⟨gp, 8, none⟩ = some (Value.slice p.wa p.wn p.wc) ∧ w'.cell? ⟨gp, 9, none⟩ = some (Value.int .u16 p.start) ∧ w'.cell? ⟨gp, 10, none⟩ = some (Value.slice p.na p.nn p.nc)) (first | with_reducible exact HX6.out.conj11 | with_reducible exact (keep11 HX6.out HN5.out _ _ _ _ _ _ _ _ _ _ _).conj11 | with_reducible exact (keep11 HX6.out HN0.out _ _ _ _ _ _ _ _ _ _ _).conj11 | with_reducible exact (HX6.out.below (fresh _ _)).conj11 | with_reducible exact HX5.out.conj11 | with_reducible exact (HX5.out.below (fresh _ _)).conj11 | with_reducible exact HXd.out.conj11 | with_reducible exact HXd1.out.conj11 | go_keep) (first | (go_at_call 19; refine Calls.mono (HLy.out _ oa oc (by first | exact HA5.out | exact HA5.out.below (fresh _ _)) (by first | exact HZ5.out | exact HZ5.out.below (fresh _ _))) ?_; rintro e w6 ⟨q, rfl, hL6, hB6⟩; have HL6 : Hid _ := hL6; have HB6 : Hid (Below W.heap.size W w6) := (by first | exact later HB5.out hB6 | exact later (later HB5.out (fresh _ _)) hB6); have HX6 : Hid (Bxd w6 gp p) := HXp.out.below HB6.out; (try (have HbB : Hid (Bx w6 w5.heap.size pz) := (bx_new w5 pz).below hB6 (by simp))); (try (have HbD : Hid (Bx w6 W.heap.size pz) := HbC.out.below hB6 (cell_lt HbC.out.x.c0))); (try (obtain ⟨y0, y1, y2, y3, y4, y5, y6, y7, y8, y9, y10⟩ := HbB.out.x; have yf := HbB.out.f; simp only [pz] at y0 y1 y2 y3 y4 y5 y6 y7 y8 y9 y10)); (try (obtain ⟨y0, y1, y2, y3, y4, y5, y6, y7, y8, y9, y10⟩ := HbD.out.x; have yf := HbD.out.f; simp only [pz] at y0 y1 y2 y3 y4 y5 y6 y7 y8 y9 y10)); clear hL6 hB6; obtain ⟨qN, q1, q2, q3, q4, q5, q6, q7, qa, qb, qc, qd, qe, qf, qg, qh, qi⟩ := q; simp only [PV.val]) | (go_at_call 11; refine Calls.mono (HOf.out _ (by first | exact HBd0.out | exact HBd1.out)) ?_; rintro e w5 ⟨oa, oc, rfl, hz5, hB5⟩; have HZ5 : Hid (ArgZ w5 oa m oc T) := hz5; have HB5 : Hid (Below W.heap.size W w5) := (by first | exact later HW0.out hB5 | exact later HW1.out hB5); have HN5 : Hid (gp ≠ w5.heap.size) := (by have := HB5.out.size; exact Nat.ne_of_lt (Nat.lt_of_lt_of_le HG.out this)); have HX5 : Hid (Bxd w5 gp p) := HXp.out.below HB5.out; have HA5 : Hid (ArgP w5 p es ws ns) := HAp.out.below HB5.out; (try (have HbC : Hid (Bx w5 W.heap.size pz) := HbC0.out.below hB5 (by simp))); clear hz5 hB5))
      · have J := join_new (q := ⟨qN, q1, q2, q3, q4, q5, q6, q7, qa, qb, qc, qd, qe, qf, qg, qh, qi⟩) HL6.out (by have := HB5.out.size; omega) HB6.out
        simp only [PV.obj] at J
        generalize w6.alloc _ = wx at J ⊢
        have hJ : Hid _ := J
        clear J HL6 HB6 HX6 HX5 HA5 HZ5 HB5
        go_wp2_with fail
        go_meet
        exact ⟨_, _, rfl, rfl, hJ.out⟩
      · have J := join_old (q := ⟨qN, q1, q2, q3, q4, q5, q6, q7, qa, qb, qc, qd, qe, qf, qg, qh, qi⟩) HbB.out HB5.out.size (by simp) HL6.out HB6.out
        simp only [lay11] at J
        generalize World.setCell _ _ _ = wx at J ⊢
        have hJ : Hid _ := J
        clear J HL6 HB6 HX6 HX5 HA5 HZ5 HB5
        go_wp2_with fail
        go_meet
        exact ⟨_, _, rfl, rfl, hJ.out⟩
      · have J := join_old (q := ⟨qN, q1, q2, q3, q4, q5, q6, q7, qa, qb, qc, qd, qe, qf, qg, qh, qi⟩) HbD.out (Nat.le_refl _) (cell_lt HbC.out.x.c0) HL6.out HB6.out
        simp only [lay11] at J
        generalize World.setCell _ _ _ = wx at J ⊢
        have hJ : Hid _ := J
        clear J HL6 HB6 HX6 HX5 HA5 HZ5 HB5
        go_wp2_with fail
        go_meet
        exact ⟨_, _, rfl, rfl, hJ.out⟩
    case rest =>
      obtain ⟨gv, v, rfl, rfl, hv0, hv1, hv2⟩ := hcut
      have HXv : Hid (Bxd wc gv v) := hv0
      have HLv : Hid (Laid W.heap.size p T ws v wc) := hv1
      have HXz' : Hid (Bxd wc gz z) := HXz.out.below hv2
      have HLz' : Hid (Laid Bz p T ws z wc) := HLz.out.below hv2
      have HOx' : Hid (Out Bx1 p ps ws x wc) := HOx.out.below hv2
      have HOy' : Hid (Out By1 p ps ws y wc) := HOy.out.below hv2
      have HB' : Hid (Below w.heap.size w wc) := later HBW.out hv2
      clear x0 x1 x2 x3 x4 x5 x6 x7 x8 x9 x10
      obtain ⟨x0, x1, x2, x3, x4, x5, x6, x7, x8, x9, x10⟩ := HXx.out.below hv2
      obtain ⟨y0, y1, y2, y3, y4, y5, y6, y7, y8, y9, y10⟩ := HXy.out.below hv2
      clear hv0 hv1 hv2 HXx HXy HXz HLz HXp HOx HOy HAp HBW
      go_wp2_with (first | (go_at_call 20; refine Calls.mono (alk_val (alk_out HWl.out HOx'.out HOy'.out)) ?_; rintro e w8 ⟨rfl, hB8⟩; have HB8 : Hid (Below wc.heap.size wc w8) := hB8; obtain ⟨p0, p1, p2, p3, p4, p5, p6, p7, p8, p9, p10⟩ := HXz'.out.below hB8; obtain ⟨q0, q1, q2, q3, q4, q5, q6, q7, q8, q9, q10⟩ := HXv.out.below hB8; clear hB8) | (go_at_call 20; refine Calls.mono (alk_val (alk_laid HWl.out HOk.out (HLz'.out.below HB8.out) (HLv.out.below HB8.out))) ?_; rintro e w9 ⟨rfl, hB9⟩; have HB9 : Hid (Below w.heap.size w w9) := later (later HB'.out HB8.out) hB9; clear hB9))
      go_ret
      exact ⟨rfl, HB9.out⟩
end Go.Proofs.Ytipdcpekepiphaa

