/-
  The law TreePlans (package shunterlaw13), walked. Conditions: that package tree comes to what TreeSpec says, and plan.Check to what it is to.
-/
import Derived.Test.YtipdcpekepiphaaTreeLaid
namespace Go.Proofs.Ytipdcpekepiphaa
open Go.ChangeShapes Go.WideShapes Go.ChangeAt Go.RowKit
set_option linter.unusedVariables false

structure TreeCheck : Prop where
  tree : TreeSpec
  check : ∀ {w : World} {p : PV} {es : List (Int × Int)} {ws : List Int} {ns : List Nat}, Pl w p es ws ns →
    Calls Try.prog 22 #[p.val] w fun e w' => e = .returned (.int .u16 (Plan.errno (Plan.may p.num es ws ns))) ∧ Below w.heap.size w w'
theorem TreeCheck.check' (S : TreeCheck) {w : World} {p : PV} {es : List (Int × Int)} {ws : List Int} {ns : List Nat} (h : Pl w p es ws ns) (z : Int) (hz : Plan.errno (Plan.may p.num es ws ns) = z) :
    Calls Try.prog 22 #[p.val] w fun e w' => e = .returned (.int .u16 z) ∧ Below w.heap.size w w' := by
  subst hz
  exact S.check h
theorem num_bounds {p : PV} {nodes room more : Nat} (h : p.num = Plan.mkNum nodes room more) : Plan.bnd p.lanes 1 3 = true ∧ Plan.bnd p.room 1 8 = true ∧ Plan.bnd p.queue 1 8 = true ∧ Plan.bnd p.rounds 1 4 = true ∧ Plan.bnd p.every 1 8 = true ∧ Plan.bnd p.bag 1 64 = true := by
  have hf := Plan.mk_fine nodes room more
  rw [← h] at hf
  unfold Plan.fine PV.num at hf
  simp only [Bool.and_eq_true] at hf
  exact ⟨hf.1.1.1.1.1.2, hf.1.1.1.1.2, hf.1.1.1.2, hf.1.1.2, hf.1.2, hf.2⟩
set_option maxHeartbeats 4000000 in
set_option maxRecDepth 100000 in
theorem treePlans_any (S : TreeCheck) (w : World) (a2 : Option Addr) (n2 c2 : Nat) (l : List Nat) (ho : Octs w a2 n2 l) (z0 : Int) (w0 : (Lit.int .u8 z0).wf = true) (z1 : Int) (w1 : (Lit.int .u8 z1).wf = true) (z2 : Int) (w2 : (Lit.int .u8 z2).wf = true) :
    Calls Try.prog 9 #[.slice a2 n2 c2, .int .u8 z0, .int .u8 z1, .int .u8 z2] w fun e w' => e = .returned (.bool true) ∧ Below w.heap.size w w' := by
  have HO : Hid (Octs w a2 n2 l) := ho
  have b0 := bounds_u8 w0
  have b1 := bounds_u8 w1
  have b2 := bounds_u8 w2
  obtain ⟨nodes, rfl⟩ := Int.eq_ofNat_of_zero_le b0.1
  obtain ⟨room, rfl⟩ := Int.eq_ofNat_of_zero_le b1.1
  obtain ⟨more, rfl⟩ := Int.eq_ofNat_of_zero_le b2.1
  have h0 : nodes < 256 := by omega
  have h1 : room < 256 := by omega
  have h2 : more < 256 := by omega
  clear ho w0 w1 w2 b0 b1 b2
  have hll := Tree.ofL_len l
  have HOk : Hid (Tree.ok (Tree.ofL l) = true ∧ Tree.layOk (Tree.ofL l) = true) := ⟨Tree.ofL_ok l, Tree.ofL_lay l⟩
  have HNum : Hid (∀ x ∈ Tree.ofL l, I64 x) := Tree.ok_num (Tree.ofL_ok l)
  obtain ⟨T, hT⟩ : ∃ T, Tree.ofL l = T := ⟨_, rfl⟩
  have HT : Hid (Tree.ofL l = T) := hT
  rw [hT] at hll HOk HNum
  obtain ⟨m, hm⟩ : ∃ m, T.length = m := ⟨_, rfl⟩
  have HM : Hid (T.length = m) := hm
  rw [hm] at hll
  obtain ⟨hl1, hl2⟩ := hll
  clear hT hm
  go_enter Try.func9, Try.ntmps9
  go_wp2_with fail
  refine (make_any nodes room more 0 h0 h1 h2 (by omega) (oct0 w)).mono ?_
  rintro e wa ⟨p, rfl, hp, hPl, hBa, hea⟩
  have HA : Hid (ArgP wa p (Plan.full 0 (Plan.mkN nodes)) (Plan.mkW more (Plan.mkL more)) (List.replicate (Plan.mkN nodes) (Plan.mkN nodes))) := argp_make hPl hea
  have HN : Hid (p.num = Plan.mkNum nodes room more) := hp
  have HBa : Hid (Below w.heap.size w wa) := hBa
  clear hp hPl hBa hea
  obtain ⟨pv, hpv⟩ : ∃ pv, p.val = pv := ⟨_, rfl⟩
  rw [hpv]
  have HPv : Hid (p.val = pv) := hpv
  clear hpv
  go_wp2_with fail
  refine (of_any (HO.out.below HBa.out)).mono ?_
  rintro e wb ⟨tb, rfl, hob, hBb⟩
  rw [HT.out] at hob
  obtain ⟨ta, tc, ht, hz⟩ := argz_of_owns hob (by have := HM.out; omega) HNum.out
  rw [HM.out] at ht hz
  subst ht
  have HZb : Hid (ArgZ wb ta m tc T) := hz
  have HBb : Hid (Below w.heap.size w wb) := later HBa.out hBb
  have HAb : Hid (ArgP wb p (Plan.full 0 (Plan.mkN nodes)) (Plan.mkW more (Plan.mkL more)) (List.replicate (Plan.mkN nodes) (Plan.mkN nodes))) := HA.out.below hBb
  clear hob hz hBb HA
  go_wp2_with fail
  rw [← HPv.out]
  refine (S.tree.lay HAb.out HZb.out).mono ?_
  rintro e wc ⟨hE, hBc⟩
  obtain ⟨q, rfl, hL⟩ := hE.yes HOk.out.2
  have HPl : Hid (Pl wc q (Tree.edges T) (Plan.mkW more (Plan.mkL more)) ((Tree.rows T).map List.length)) := hL.pl HAb.out.pl HOk.out.1
  have HMay : Hid (Plan.errno (Plan.may q.num (Tree.edges T) (Plan.mkW more (Plan.mkL more)) ((Tree.rows T).map List.length)) = 0) := by
    obtain ⟨i1, i2, i3, i4, i5, i6⟩ := num_bounds HN.out
    have hlan : p.lanes = (Plan.mkL more : Nat) := by
      have h := congrArg Plan.Num.lanes HN.out
      exact h
    exact laid_may hL.nodes HOk.out.2 ⟨by rw [hL.lanes]; exact i1, by rw [hL.room]; exact i2, by rw [hL.queue]; exact i3, by rw [hL.rounds]; exact i4, by rw [hL.every]; exact i5, by rw [hL.bag]; exact i6⟩ (Plan.mkW_ok more) (by rw [Plan.mkW_len, hL.lanes, hlan])
  have HNn : Hid (q.nodes = ((m + 1 : Nat) : Int)) := by show _ = _; rw [hL.nodes, HM.out]
  have HEn : Hid (q.en = m) := by show _ = _; rw [← hL.pr.1.1, Tree.edges_len, HM.out]
  have HBc : Hid (Below w.heap.size w wc) := later HBb.out hBc
  clear hE hBc hL HAb
  have HX : Hid (Bxd (wc.alloc q.obj) wc.heap.size q ∧ Below wc.heap.size wc (wc.alloc q.obj)) := ⟨bxd_new _ _, fresh _ _⟩
  obtain ⟨qN, q1, q2, q3, q4, q5, q6, q7, qa, qb, qc, qd, qe, qf, qg, qh, qi⟩ := q
  simp only [PV.val, PV.obj] at HX HNn HEn ⊢
  have hNn := HNn.out
  have hEn := HEn.out
  subst hEn
  rw [hNn] at HX HPl HMay ⊢
  clear HNn HEn hNn
  have hqN : ((qb + 1 : Nat) : Int) = (qb : Int) + 1 := by omega
  rw [hqN] at HX HPl HMay ⊢
  clear hqN
  go_upto_region 2 with fail
  have HP3 : Hid (Pl (wc.alloc (PV.obj ⟨((qb : Int) + 1), q1, q2, q3, q4, q5, q6, q7, qa, qb, qc, qd, qe, qf, qg, qh, qi⟩)) ⟨((qb : Int) + 1), q1, q2, q3, q4, q5, q6, q7, qa, qb, qc, qd, qe, qf, qg, qh, qi⟩ (Tree.edges T) (Plan.mkW more (Plan.mkL more)) ((Tree.rows T).map List.length)) := HPl.out.below (fresh _ _)
  have HB3 : Hid (Below w.heap.size w (wc.alloc (PV.obj ⟨((qb : Int) + 1), q1, q2, q3, q4, q5, q6, q7, qa, qb, qc, qd, qe, qf, qg, qh, qi⟩))) := later HBc.out (fresh _ _)
  simp only [PV.obj] at HP3 HB3
  generalize wc.alloc _ = W3 at HX HP3 HB3 ⊢
  have HXd : Hid (Bxd W3.drew wc.heap.size ⟨((qb : Int) + 1), q1, q2, q3, q4, q5, q6, q7, qa, qb, qc, qd, qe, qf, qg, qh, qi⟩) := HX.out.1.below (Below.refl _ _).drew
  generalize wc.heap.size = g at HX HXd ⊢
  have HPd : Hid (Pl W3.drew ⟨((qb : Int) + 1), q1, q2, q3, q4, q5, q6, q7, qa, qb, qc, qd, qe, qf, qg, qh, qi⟩ (Tree.edges T) (Plan.mkW more (Plan.mkL more)) ((Tree.rows T).map List.length)) := HP3.out.below (Below.refl _ _).drew
  have HBd : Hid (Below w.heap.size w W3.drew) := later HB3.out (Below.refl _ _).drew
  have C2 : Hid (∀ u : World, Pl u ⟨((qb : Int) + 1), q1, q2, q3, q4, q5, q6, q7, qa, qb, qc, qd, qe, qf, qg, qh, qi⟩ (Tree.edges T) (Plan.mkW more (Plan.mkL more)) ((Tree.rows T).map List.length) → Calls Try.prog 22 #[.agg #[.int .i64 ((qb : Int) + 1), .slice qa qb qc, .int .i64 q1, .int .i64 q2, .int .i64 q3, .int .i64 q4, .int .i64 q5, .int .i64 q6, .slice qd qe qf, .int .u16 q7, .slice qg qh qi]] u fun e w' => e = .returned (.int .u16 0) ∧ Below u.heap.size u w') := fun u h => S.check' h 0 HMay.out
  obtain ⟨x0, x1, x2, x3, x4, x5, x6, x7, x8, x9, x10⟩ := HX.out.1
  simp only at x0 x1 x2 x3 x4 x5 x6 x7 x8 x9 x10
  have wq : IntKind.i64.wrap (qb : Int) = qb := by simp only [IntKind.wrap_i64]; omega
  have wq2 : IntKind.i64.wrap ((qb : Int) + 1) = (qb : Int) + 1 := by simp only [IntKind.wrap_i64]; omega
  clear HX HP3 HPl HMay
  go_region_held3 (fun w' => w'.cell? ⟨g, 0, none⟩ = some (Value.int .i64 ((qb : Int) + 1)) ∧ w'.cell? ⟨g, 1, none⟩ = some (Value.slice qa qb qc) ∧ w'.cell? ⟨g, 2, none⟩ = some (Value.int .i64 q1) ∧ w'.cell? ⟨g, 3, none⟩ = some (Value.int .i64 q2) ∧ w'.cell? ⟨g, 4, none⟩ = some (Value.int .i64 q3) ∧ w'.cell? ⟨g, 5, none⟩ = some (Value.int .i64 q4) ∧ w'.cell? ⟨g, 6, none⟩ = some (Value.int .i64 q5) ∧ w'.cell? ⟨g, 7, none⟩ = some (Value.int .i64 q6) ∧ w'.cell? ⟨g, 8, none⟩ = some (Value.slice qd qe qf) ∧ w'.cell? ⟨g, 9, none⟩ = some (Value.int .u16 q7) ∧ w'.cell? ⟨g, 10, none⟩ = some (Value.slice qg qh qi)) (first | exact HX6.out.conj11 | exact HX5.out.conj11 | exact HX4.out.conj11 | exact HXd.out.conj11) (first | (go_at_call 11; refine (of_any (HO.out.below HB5.out)).mono ?_; rintro e w6 ⟨x6', rfl, hob6, hB6⟩; rw [HT.out] at hob6; obtain ⟨oa, oc, ho6, _⟩ := zr_of_owns hob6; rw [HM.out] at ho6; subst ho6; have HX6 : Hid (Bxd w6 g ⟨((qb : Int) + 1), q1, q2, q3, q4, q5, q6, q7, qa, qb, qc, qd, qe, qf, qg, qh, qi⟩) := HX5.out.below hB6; have HB6 : Hid (Below w.heap.size w w6) := later HB5.out hB6; clear hob6 hB6) | (go_at_call 22; refine Calls.mono (C2.out _ HP4.out) ?_; rintro e w5 ⟨rfl, hB5⟩; have HX5 : Hid (Bxd w5 g ⟨((qb : Int) + 1), q1, q2, q3, q4, q5, q6, q7, qa, qb, qc, qd, qe, qf, qg, qh, qi⟩) := HX4.out.below hB5; have HB5 : Hid (Below w.heap.size w w5) := later HB4.out hB5; clear hB5) | (go_at_call 13; refine (tknown_any S.tree _).mono ?_; rintro e w4 ⟨rfl, hB4⟩; have HX4 : Hid (Bxd w4 g ⟨((qb : Int) + 1), q1, q2, q3, q4, q5, q6, q7, qa, qb, qc, qd, qe, qf, qg, qh, qi⟩) := HXd.out.below hB4; have HP4 : Hid (Pl w4 ⟨((qb : Int) + 1), q1, q2, q3, q4, q5, q6, q7, qa, qb, qc, qd, qe, qf, qg, qh, qi⟩ (Tree.edges T) (Plan.mkW more (Plan.mkL more)) ((Tree.rows T).map List.length)) := HPd.out.below hB4; have HB4 : Hid (Below w.heap.size w w4) := later HBd.out hB4; clear hB4))
  go_wp2_with fail
  go_ret
  exact ⟨rfl, HB6.out⟩
end Go.Proofs.Ytipdcpekepiphaa
