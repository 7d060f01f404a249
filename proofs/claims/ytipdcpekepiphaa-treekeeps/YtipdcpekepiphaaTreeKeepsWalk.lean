/-
  The law TreeKeeps (package shunterlaw13), walked. Conditions: that package tree comes to what TreeSpec says.
-/
import Derived.Test.YtipdcpekepiphaaTreeJoin
import Derived.Test.YtipdcpekepiphaaTreeKnown
namespace Go.Proofs.Ytipdcpekepiphaa
open Go.ChangeShapes Go.WideShapes Go.ChangeAt Go.RowKit
set_option linter.unusedVariables false

set_option maxHeartbeats 4000000 in
set_option maxRecDepth 100000 in
theorem treeKeeps_any (S : TreeSpec) (w : World) (a2 : Option Addr) (n2 c2 : Nat) (l : List Nat) (ho : Octs w a2 n2 l) (z0 : Int) (w0 : (Lit.int .u8 z0).wf = true) (z1 : Int) (w1 : (Lit.int .u8 z1).wf = true) (z2 : Int) (w2 : (Lit.int .u8 z2).wf = true) :
    Calls Try.prog 4 #[.slice a2 n2 c2, .int .u8 z0, .int .u8 z1, .int .u8 z2] w fun e w' => e = .returned (.bool true) ∧ Below w.heap.size w w' := by
  have HO : Hid (Octs w a2 n2 l) := ho
  have b0 := bounds_u8 w0
  have b1 := bounds_u8 w1
  have b2 := bounds_u8 w2
  obtain ⟨nodes, rfl⟩ := Int.eq_ofNat_of_zero_le b0.1
  obtain ⟨room, rfl⟩ := Int.eq_ofNat_of_zero_le b1.1
  obtain ⟨more, rfl⟩ := Int.eq_ofNat_of_zero_le b2.1
  have h0 : nodes < 256 := by omega
  have h1 : room < 256 := by omega
  have h2 : more < 256 := by omega
  clear ho w0 w1 w2 b0 b1 b2
  have HOk : Hid (Tree.layOk (Tree.ofL l) = true) := Tree.ofL_lay l
  obtain ⟨T, hT⟩ : ∃ T, Tree.ofL l = T := ⟨_, rfl⟩
  have HT : Hid (Tree.ofL l = T) := hT
  rw [hT] at HOk
  obtain ⟨m, hm⟩ : ∃ m, T.length = m := ⟨_, rfl⟩
  have HM : Hid (T.length = m) := hm
  clear hT hm
  go_enter Try.func4, Try.ntmps4
  go_wp2_with fail
  refine (make_any nodes room more 0 h0 h1 h2 (by omega) (oct0 w)).mono ?_
  rintro e wa ⟨p, rfl, hp, hPl, hBa, hea⟩
  have HA : Hid (ArgP wa p (Plan.full 0 (Plan.mkN nodes)) (Plan.mkW more (Plan.mkL more)) (List.replicate (Plan.mkN nodes) (Plan.mkN nodes))) := argp_make hPl hea
  have HBa : Hid (Below w.heap.size w wa) := hBa
  clear hp hPl hBa hea
  unfold PV.val
  go_upto_region 2 with fail
  have HXp : Hid (Bxd (wa.alloc p.obj) wa.heap.size p) := bxd_new _ _
  have HAp : Hid (ArgP (wa.alloc p.obj) p (Plan.full 0 (Plan.mkN nodes)) (Plan.mkW more (Plan.mkL more)) (List.replicate (Plan.mkN nodes) (Plan.mkN nodes))) := HA.out.below (fresh _ _)
  have HBW : Hid (Below w.heap.size w (wa.alloc p.obj)) := later HBa.out (fresh _ _)
  simp only [PV.obj] at HXp HAp HBW
  generalize wa.alloc _ = W at HXp HAp HBW ⊢
  generalize wa.heap.size = gp at HXp ⊢
  clear HA HBa
  have hgp : gp < W.heap.size := cell_lt HXp.out.c0
  obtain ⟨x0, x1, x2, x3, x4, x5, x6, x7, x8, x9, x10⟩ := HXp.out
  go_cut [10, 11] (fun s10 s11 wx => ∃ (g : Nat) (q : PV), s10 = .pointer (some ⟨g, 0, none⟩) ∧ s11 = .int .u16 0 ∧ Bxd wx g q ∧ Laid W.heap.size p T (Plan.mkW more (Plan.mkL more)) q wx ∧ Below W.heap.size W wx)
  case first =>
    have HOf : Hid (∀ u : World, Below w.heap.size w u → Calls Try.prog 11 #[.slice a2 n2 c2] u fun e w' => ∃ oa oc, e = .returned (.slice oa m oc) ∧ ArgZ w' oa m oc T ∧ Below u.heap.size u w') := fun u hu => of_met HO.out HT.out HM.out u hu
    have HLy : Hid _ := fun (u : World) (oa : Option Addr) (oc : Nat) (hp : ArgP u p (Plan.full 0 (Plan.mkN nodes)) (Plan.mkW more (Plan.mkL more)) (List.replicate (Plan.mkN nodes) (Plan.mkN nodes))) (hz : ArgZ u oa m oc T) => lay_met S HOk.out u oa oc hp hz
    have HBd0 : Hid (Below w.heap.size w W.drew) := later HBW.out (Below.refl _ _).drew
    have HBd1 : Hid (Below w.heap.size w (W.alloc pz.obj).drew) := later HBW.out (fresh _ _).drew
    have HW0 : Hid (Below W.heap.size W W.drew) := (Below.refl _ _).drew
    have HW1 : Hid (Below W.heap.size W (W.alloc pz.obj).drew) := (fresh _ _).drew
    have HbC0 : Hid (Bx (W.alloc pz.obj).drew W.heap.size pz) := (bx_new W pz).below (B := (W.alloc pz.obj).heap.size) (Below.refl _ _).drew (by simp)
    have HG : Hid (gp < W.heap.size) := hgp
    have HN0 : Hid (gp ≠ W.heap.size) := Nat.ne_of_lt hgp
    have HXd : Hid (Bxd W.drew gp p) := HXp.out.below HW0.out
    have HXd1 : Hid (Bxd (W.alloc pz.obj).drew gp p) := HXp.out.below HW1.out
    simp only [PV.obj, pz] at HBd1 HW1 HbC0 HXd1
    go_region_held3 (fun w' => w'.cell? ⟨gp, 0, none⟩ = some (Value.int .i64 p.nodes) ∧ w'.cell? ⟨gp, 1, none⟩ = some (Value.slice p.ea p.en p.ec) ∧ w'.cell? ⟨gp, 2, none⟩ = some (Value.int .i64 p.lanes) ∧ w'.cell? ⟨gp, 3, none⟩ = some (Value.int .i64 p.room) ∧ w'.cell? ⟨gp, 4, none⟩ = some (Value.int .i64 p.queue) ∧ w'.cell? ⟨gp, 5, none⟩ = some (Value.int .i64 p.rounds) ∧ w'.cell? ⟨gp, 6, none⟩ = some (Value.int .i64 p.every) ∧ w'.cell? ⟨gp, 7, none⟩ = some (Value.int .i64 p.bag) ∧ w'.cell? ⟨gp, 8, none⟩ = some (Value.slice p.wa p.wn p.wc) ∧ w'.cell? ⟨gp, 9, none⟩ = some (Value.int .u16 p.start) ∧ w'.cell? ⟨gp, 10, none⟩ = some (Value.slice p.na p.nn p.nc)) (first | with_reducible exact HX6.out.conj11 | with_reducible exact (keep11 HX6.out HN5.out _ _ _ _ _ _ _ _ _ _ _).conj11 | with_reducible exact (keep11 HX6.out HN0.out _ _ _ _ _ _ _ _ _ _ _).conj11 | with_reducible exact (HX6.out.below (fresh _ _)).conj11 | with_reducible exact HX5.out.conj11 | with_reducible exact (HX5.out.below (fresh _ _)).conj11 | with_reducible exact HXd.out.conj11 | with_reducible exact HXd1.out.conj11 | go_keep) (first | (go_at_call 12; refine Calls.mono (HLy.out _ oa oc (by first | exact HA5.out | exact HA5.out.below (fresh _ _)) (by first | exact HZ5.out | exact HZ5.out.below (fresh _ _))) ?_; rintro e w6 ⟨q, rfl, hL6, hB6⟩; have HL6 : Hid _ := hL6; have HB6 : Hid (Below W.heap.size W w6) := (by first | exact later HB5.out hB6 | exact later (later HB5.out (fresh _ _)) hB6); have HX6 : Hid (Bxd w6 gp p) := HXp.out.below HB6.out; (try (have HbB : Hid (Bx w6 w5.heap.size pz) := (bx_new w5 pz).below hB6 (by simp))); (try (have HbD : Hid (Bx w6 W.heap.size pz) := HbC.out.below hB6 (cell_lt HbC.out.x.c0))); (try (obtain ⟨y0, y1, y2, y3, y4, y5, y6, y7, y8, y9, y10⟩ := HbB.out.x; have yf := HbB.out.f; simp only [pz] at y0 y1 y2 y3 y4 y5 y6 y7 y8 y9 y10)); (try (obtain ⟨y0, y1, y2, y3, y4, y5, y6, y7, y8, y9, y10⟩ := HbD.out.x; have yf := HbD.out.f; simp only [pz] at y0 y1 y2 y3 y4 y5 y6 y7 y8 y9 y10)); clear hL6 hB6; obtain ⟨qN, q1, q2, q3, q4, q5, q6, q7, qa, qb, qc, qd, qe, qf, qg, qh, qi⟩ := q; simp only [PV.val]) | (go_at_call 11; refine Calls.mono (HOf.out _ (by first | exact HBd0.out | exact HBd1.out)) ?_; rintro e w5 ⟨oa, oc, rfl, hz5, hB5⟩; have HZ5 : Hid (ArgZ w5 oa m oc T) := hz5; have HB5 : Hid (Below W.heap.size W w5) := (by first | exact later HW0.out hB5 | exact later HW1.out hB5); have HN5 : Hid (gp ≠ w5.heap.size) := (by have := HB5.out.size; exact Nat.ne_of_lt (Nat.lt_of_lt_of_le HG.out this)); have HX5 : Hid (Bxd w5 gp p) := HXp.out.below HB5.out; have HA5 : Hid (ArgP w5 p (Plan.full 0 (Plan.mkN nodes)) (Plan.mkW more (Plan.mkL more)) (List.replicate (Plan.mkN nodes) (Plan.mkN nodes))) := HAp.out.below HB5.out; (try (have HbC : Hid (Bx w5 W.heap.size pz) := HbC0.out.below hB5 (by simp))); clear hz5 hB5))
    · have J := join_new (q := ⟨qN, q1, q2, q3, q4, q5, q6, q7, qa, qb, qc, qd, qe, qf, qg, qh, qi⟩) HL6.out (by have := HB5.out.size; omega) HB6.out
      simp only [PV.obj] at J
      generalize w6.alloc _ = wx at J ⊢
      have hJ : Hid _ := J
      clear J HL6 HB6 HX6 HX5 HA5 HZ5 HB5
      go_wp2_with fail
      go_meet
      exact ⟨_, _, rfl, rfl, hJ.out⟩
    · have J := join_old (q := ⟨qN, q1, q2, q3, q4, q5, q6, q7, qa, qb, qc, qd, qe, qf, qg, qh, qi⟩) HbB.out HB5.out.size (by simp) HL6.out HB6.out
      simp only [lay11] at J
      generalize World.setCell _ _ _ = wx at J ⊢
      have hJ : Hid _ := J
      clear J HL6 HB6 HX6 HX5 HA5 HZ5 HB5
      go_wp2_with fail
      go_meet
      exact ⟨_, _, rfl, rfl, hJ.out⟩
    · have J := join_old (q := ⟨qN, q1, q2, q3, q4, q5, q6, q7, qa, qb, qc, qd, qe, qf, qg, qh, qi⟩) HbD.out (Nat.le_refl _) (cell_lt HbC.out.x.c0) HL6.out HB6.out
      simp only [lay11] at J
      generalize World.setCell _ _ _ = wx at J ⊢
      have hJ : Hid _ := J
      clear J HL6 HB6 HX6 HX5 HA5 HZ5 HB5
      go_wp2_with fail
      go_meet
      exact ⟨_, _, rfl, rfl, hJ.out⟩
  case rest =>
    obtain ⟨g, q, rfl, rfl, hx, hL, hBc⟩ := hcut
    have hk : 0 < Plan.mkL more := by unfold Plan.mkL; omega
    obtain ⟨hz1, hz2, hz3, hz4, hz5⟩ := hL.zr
    clear hz3 hz4 hz5
    have hp1 := HAp.out.pl.hw
    have hp2 := HAp.out.pl.wc
    have hp3 := hp1.1
    have hp4 := HAp.out.pl.wb
    have hown := hL.hw
    rw [Plan.mkW_len] at hz2 hp3 hown
    have HXc := HXp.out.below hBc
    clear x0 x1 x2 x3 x4 x5 x6 x7 x8 x9 x10 HAp
    obtain ⟨pN, p1, p2, p3, p4, p5, p6, p7, pa, pb, pc, pd, pe, pf, pg, ph, pi⟩ := p
    obtain ⟨qN, q1, q2, q3, q4, q5, q6, q7, qa, qb, qc, qd, qe, qf, qg, qh, qi⟩ := q
    obtain ⟨l0, l1, l2, l3, l4, l5, l6, l7, l8, l9, l10⟩ := hL
    clear l0 l8 l9 l10
    simp only at l1 l2 l3 l4 l5 l6 l7 hz1 hz2 hp1 hp2 hp3 hp4 hown
    subst l1 l2 l3 l4 l5 l6 l7 hz2 hp3
    generalize Plan.mkW more (Plan.mkL more) = ws at hz1 hp1 hown
    generalize Plan.mkL more = k at hk hz1 hp1 hp2 hp4 hown hx HXp HXc
    obtain ⟨pb', po, rfl, hpb⟩ := zr0 hp1 hk
    rcases hown.2 with ⟨e, h0⟩ | ⟨gq, cap, cur, e, hbq, hgq, _⟩
    · omega
    cases e
    have fq : wc.frozen? ⟨gq, 0, none⟩ = false := hown.frozenAt 0
    have cq := zr0_cell hz1 hk
    have cp := zr0_cell hp1 hk
    have HZq : Hid (Zr wc (some ⟨gq, 0, none⟩) k ws) := hz1
    have HZp : Hid (Zr wc (some ⟨pb', po, none⟩) k ws) := hp1.below hBc
    have HBc : Hid (Below W.heap.size W wc) := hBc
    have HCp : Hid (W.cell? ⟨pb', po, none⟩ = some (.int .i64 (ws.getD 0 0))) := cp
    have HX8 : Hid (W.cell? ⟨gp, 8, none⟩ = some (.slice (some ⟨pb', po, none⟩) k pf)) := HXp.out.c8
    have HCq : Hid (wc.cell? ⟨gq, 0, none⟩ = some (.int .i64 (ws.getD 0 0))) := cq
    have HFq : Hid (wc.frozen? ⟨gq, 0, none⟩ = false) := fq
    have HY8 : Hid (wc.cell? ⟨g, 8, none⟩ = some (.slice (some ⟨gq, 0, none⟩) k qf)) := hx.c8
    generalize ws.getD 0 0 = v at cq cp HCp HCq
    have HN : Hid (gq < wc.heap.size ∧ W.heap.size ≤ gq ∧ pb' < W.heap.size ∧ gp < W.heap.size ∧ k ≤ 17592186044416) := ⟨cell_lt cq, hbq, hpb, hgp, hp4⟩
    obtain ⟨_, _, x2, x3, x4, x5, x6, x7, x8, x9, _⟩ := HXc
    obtain ⟨_, _, y2, y3, y4, y5, y6, y7, y8, y9, _⟩ := hx
    simp only at x2 x3 x4 x5 x6 x7 x8 x9 y2 y3 y4 y5 y6 y7 y8 y9
    clear hz1 hp1 hBc hown fq cq cp hgq hbq hpb hgp HXp HO HOk HT HM h0 h1 h2
    go_wp2_with (first | (go_at_call 16; refine (tsame_any HZq.out HZp.out HN.out.2.2.2.2).mono ?_; rintro e w3 ⟨rfl, hB3⟩; have HB3 : Hid (Below wc.heap.size wc w3) := hB3; have HB3' : Hid (Below W.heap.size W w3) := later HBc.out hB3; have x8' : w3.cell? ⟨gp, 8, none⟩ = _ := (HB3'.out.cell (p := ⟨gp, 8, none⟩) HN.out.2.2.2.1).trans HX8.out; have y8' : w3.cell? ⟨g, 8, none⟩ = _ := (hB3.cell (p := ⟨g, 8, none⟩) (cell_lt HY8.out)).trans HY8.out; have cq' : w3.cell? ⟨gq, 0, none⟩ = _ := (hB3.cell (p := ⟨gq, 0, none⟩) HN.out.1).trans HCq.out; have fq' : w3.frozen? ⟨gq, 0, none⟩ = _ := (hB3.frozen (p := ⟨gq, 0, none⟩) HN.out.1).trans HFq.out; have cp' : w3.cell? ⟨pb', po, none⟩ = _ := (HB3'.out.cell (p := ⟨pb', po, none⟩) HN.out.2.2.1).trans HCp.out; clear hB3) | (go_at_call 13; refine (tknown_any S _).mono ?_; rintro e w5 ⟨rfl, hB5⟩; have HB5 : Hid (Below W.heap.size W w5) := later (HB3'.out.setCell HN.out.2.1 _) hB5; have x8'' : w5.cell? ⟨gp, 8, none⟩ = _ := (HB5.out.cell (p := ⟨gp, 8, none⟩) HN.out.2.2.2.1).trans HX8.out; have cp'' : w5.cell? ⟨pb', po, none⟩ = _ := (HB5.out.cell (p := ⟨pb', po, none⟩) HN.out.2.2.1).trans HCp.out; clear hB5))
    go_ret
    exact ⟨rfl, later HBW.out HB5.out⟩
end Go.Proofs.Ytipdcpekepiphaa
