/-
  The law RouteTells (package shunterlaw14), walked. Conditions: that package route comes to what RouteSpec says.
-/
import Derived.Test.YtphaaolnmbadcaaRouteTellsA
import Derived.Test.YtphaaolnmbadcaaPlanSpec
namespace Go.Proofs.Ytphaaolnmbadcaa
open Go.ChangeShapes Go.WideShapes Go.ChangeAt Go.RowKit
set_option linter.unusedVariables false

set_option maxHeartbeats 8000000 in
set_option maxRecDepth 100000 in
theorem routeTells_any (S : RouteSpec) (w : World) (p : PV) (es : List (Int × Int)) (ws : List Int) (rs : List (List Int)) (hp : PlN w p es ws rs) (z0 : Int) (w0 : (Lit.int .u8 z0).wf = true) (z1 : Int) (w1 : (Lit.int .u8 z1).wf = true) (z2 : Int) (w2 : (Lit.int .u8 z2).wf = true) (z3 : Int) (w3 : (Lit.int .u16 z3).wf = true) (a : Option Addr) (n c : Nat) (l : List Nat) (ho : Octs w a n l) (v : Int) (wv : (Lit.int .i64 v).wf = true) (u : Int) (wu : (Lit.int .i64 u).wf = true) :
    Calls Try.prog 5 #[p.val, .int .u8 z0, .int .u8 z1, .int .u8 z2, .int .u16 z3, .slice a n c, .int .i64 v, .int .i64 u] w fun e w' => e = .returned (.bool true) ∧ Below w.heap.size w w' := by
  have HO : Hid (Octs w a n l) := ho
  have HP : Hid (PlN w p es ws rs) := hp
  have b0 := bounds_u8 w0
  have b1 := bounds_u8 w1
  have b2 := bounds_u8 w2
  have b3 := bounds_u16 w3
  have bv := bounds_i64 wv
  have bu := bounds_i64 wu
  obtain ⟨nodes, rfl⟩ := Int.eq_ofNat_of_zero_le b0.1
  obtain ⟨room, rfl⟩ := Int.eq_ofNat_of_zero_le b1.1
  obtain ⟨more, rfl⟩ := Int.eq_ofNat_of_zero_le b2.1
  obtain ⟨J, rfl⟩ := Int.eq_ofNat_of_zero_le b3.1
  have h0 : nodes < 256 := by omega
  have h1 : room < 256 := by omega
  have h2 : more < 256 := by omega
  have h3 : J < 65536 := by omega
  have HV : Hid (I64 v) := bv
  have HU : Hid (I64 u) := bu
  clear ho hp w0 w1 w2 w3 wv wu b0 b1 b2 b3 bv bu
  have HX : Hid (Bxd (w.alloc p.obj) w.heap.size p) := bxd_new w p
  have HPb : Hid (PlN (w.alloc p.obj) p es ws rs) := HP.out.below (fresh _ _)
  have HB : Hid (Below w.heap.size w (w.alloc p.obj)) := fresh _ _
  have HOb : Hid (Octs (w.alloc p.obj) a n l) := HO.out.below (fresh _ _)
  obtain ⟨x0, x1, x2, x3, x4, x5, x6, x7, x8, x9, x10⟩ := HX.out
  simp only [PV.obj] at HX HPb HB HOb x0 x1 x2 x3 x4 x5 x6 x7 x8 x9 x10
  clear HO HP
  unfold PV.val
  go_enter Try.func5, Try.ntmps5
  go_wp2_with fail
  refine (heavy_any HPb.out.pl).mono ?_
  rintro e wa ⟨hz, rfl, hBa⟩
  have HXa : Hid (Bxd wa w.heap.size p) := HX.out.below hBa
  have HPa : Hid (PlN wa p es ws rs) := HPb.out.below hBa
  have HBa : Hid (Below w.heap.size w wa) := later HB.out hBa
  have HOa : Hid (Octs wa a n l) := HOb.out.below hBa
  clear hBa HX HPb HB HOb x0 x1 x2 x3 x4 x5 x6 x7 x8 x9 x10
  by_cases hg : (300 : Int) < hz
  · have g : decide ((300 : Int) < hz) = true := decide_eq_true hg
    clear hg
    go_wp2_with fail
    refine (rknown_any S _).mono ?_
    rintro e wb ⟨rfl, hBb⟩
    have HBb : Hid (Below w.heap.size w wb) := later HBa.out hBb
    clear hBb
    go_wp2_with fail
    go_ret
    exact ⟨rfl, HBb.out⟩
  · have g : decide ((300 : Int) < hz) = false := decide_eq_false hg
    clear hg
    go_wp2_with fail
    refine (rknown_any S _).mono ?_
    rintro e wb ⟨rfl, hBb⟩
    have HXb : Hid (Bxd wb w.heap.size p) := HXa.out.below hBb
    have HPb : Hid (PlN wb p es ws rs) := HPa.out.below hBb
    have HBb : Hid (Below w.heap.size w wb) := later HBa.out hBb
    have HOb : Hid (Octs wb a n l) := HOa.out.below hBb
    clear hBb HXa HPa HBa HOa
    go_wp2_with fail
    refine (makeN_is nodes room more J h0 h1 h2 h3 HOb.out).mono ?_
    rintro e wc ⟨q, rfl, hM, hQ, _, hBc⟩
    have HXc : Hid (Bxd (wc.alloc q.obj) w.heap.size p) := (HXb.out.below hBc).below (fresh _ _)
    have HPc : Hid (PlN (wc.alloc q.obj) p es ws rs) := (HPb.out.below hBc).below (fresh _ _)
    have HQc : Hid (PlN (wc.alloc q.obj) q (Plan.full J (Plan.mkN nodes)) (Plan.mkW more (Plan.mkL more)) (Route.mkRows (Plan.mkN nodes) l)) := hQ.below (fresh _ _)
    have HBc : Hid (Below w.heap.size w (wc.alloc q.obj)) := later (later HBb.out hBc) (fresh _ _)
    have HYc : Hid (Bxd (wc.alloc q.obj) wc.heap.size q) := bxd_new _ _
    have hN := hM.nodes
    obtain ⟨hN2, hN6⟩ := Plan.mkN_b nodes
    obtain ⟨N, hNe⟩ : ∃ N, Plan.mkN nodes = N := ⟨_, rfl⟩
    rw [hNe] at hN hN2 hN6
    clear hM hQ hBc HXb HPb HBb HOb hNe
    simp only [PV.obj] at HXc HPc HQc HBc HYc
    obtain ⟨qN, lanes, room', queue, rounds, every, bag, start, ea, en, ec, wa', wn, wc', na, nn, nc⟩ := q
    simp only at hN
    subst hN
    simp only [PV.val]
    simp only at HXc HPc HQc HBc HYc
    go_upto_region 4 with fail
    generalize wc.alloc _ = W at HXc HPc HQc HBc HYc ⊢
    obtain ⟨gq, hgq⟩ : ∃ g, wc.heap.size = g := ⟨_, rfl⟩
    rw [hgq] at HYc ⊢
    clear hgq
    obtain ⟨v', hv'⟩ : ∃ v', (if v < 0 then (0 : Int) else v) = v' := ⟨_, rfl⟩
    obtain ⟨u', hu'⟩ : ∃ u', (if u < 0 then (0 : Int) else u) = u' := ⟨_, rfl⟩
    have hv0 : 0 ≤ v' := by rw [← hv']; split <;> omega
    have hu0 : 0 ≤ u' := by rw [← hu']; split <;> omega
    obtain ⟨y, hy⟩ : ∃ y, v'.tmod (N : Int) = y := ⟨_, rfl⟩
    obtain ⟨x, hx⟩ : ∃ x, u'.tmod (N : Int) = x := ⟨_, rfl⟩
    have e1 := Int.tmod_eq_emod_of_nonneg hv0 (b := (N : Int))
    have e2 := Int.tmod_eq_emod_of_nonneg hu0 (b := (N : Int))
    have hyb : I64 y ∧ I64 x := by
      have e3 := Int.emod_nonneg v' (show (N : Int) ≠ 0 by omega)
      have e4 := Int.emod_nonneg u' (show (N : Int) ≠ 0 by omega)
      have e5 := Int.emod_lt_of_pos v' (show (0 : Int) < N by omega)
      have e6 := Int.emod_lt_of_pos u' (show (0 : Int) < N by omega)
      unfold I64
      omega
    have hy2 : v' % (N : Int) = y := by rw [← e1]; exact hy
    have hx2 : u' % (N : Int) = x := by rw [← e2]; exact hx
    clear e1 e2 hv0 hu0
    have HYX : Hid (I64 y ∧ I64 x) := hyb
    have HT1 : Hid (∀ m : Since W, Calls Try.prog 15 #[.agg #[.int .i64 p.nodes, .slice p.ea p.en p.ec, .int .i64 p.lanes, .int .i64 p.room, .int .i64 p.queue, .int .i64 p.rounds, .int .i64 p.every, .int .i64 p.bag, .slice p.wa p.wn p.wc, .int .u16 p.start, .slice p.na p.nn p.nc], .int .i64 v, .int .i64 u] m.w fun e w' => e = .returned (.bool true) ∧ Below m.w.heap.size m.w w') := fun m => rtells_any S (HPc.out.below m.h) v u HV.out HU.out
    have HT2 : Hid (∀ (m : Since W) (s t : Int), I64 s → I64 t → Calls Try.prog 15 #[.agg #[.int .i64 (N : Int), .slice ea en ec, .int .i64 lanes, .int .i64 room', .int .i64 queue, .int .i64 rounds, .int .i64 every, .int .i64 bag, .slice wa' wn wc', .int .u16 start, .slice na nn nc], .int .i64 s, .int .i64 t] m.w fun e w' => e = .returned (.bool true) ∧ Below m.w.heap.size m.w w') := fun m s t hs ht => rtells_any S (HQc.out.below m.h) s t hs ht
    have hne := Since.any W
    have hN0 : ¬ ((N : Int) = 0) := by omega
    have hN0' : N ≠ 0 := by omega
    have hN0b : ((N : Int) == 0) = false := by simp; omega
    obtain ⟨x0, x1, x2, x3, x4, x5, x6, x7, x8, x9, x10⟩ := HXc.out
    obtain ⟨y0, y1, y2, y3, y4, y5, y6, y7, y8, y9, y10⟩ := HYc.out
    simp only at y0 y1 y2 y3 y4 y5 y6 y7 y8 y9 y10
    have c0 := fun m : Since W => m.cell x0
    have c1 := fun m : Since W => m.cell x1
    have c2 := fun m : Since W => m.cell x2
    have c3 := fun m : Since W => m.cell x3
    have c4 := fun m : Since W => m.cell x4
    have c5 := fun m : Since W => m.cell x5
    have c6 := fun m : Since W => m.cell x6
    have c7 := fun m : Since W => m.cell x7
    have c8 := fun m : Since W => m.cell x8
    have c9 := fun m : Since W => m.cell x9
    have c10 := fun m : Since W => m.cell x10
    have d0 := fun m : Since W => m.cell y0
    have d1 := fun m : Since W => m.cell y1
    have d2 := fun m : Since W => m.cell y2
    have d3 := fun m : Since W => m.cell y3
    have d4 := fun m : Since W => m.cell y4
    have d5 := fun m : Since W => m.cell y5
    have d6 := fun m : Since W => m.cell y6
    have d7 := fun m : Since W => m.cell y7
    have d8 := fun m : Since W => m.cell y8
    have d9 := fun m : Since W => m.cell y9
    have d10 := fun m : Since W => m.cell y10
    clear x0 y0 x1 y1 x2 y2 x3 y3 x4 y4 x5 y5 x6 y6 x7 y7 x8 y8 x9 y9 x10 y10
    clear hyb
    go_wp2_with fail
    refine region_since (u := W) (by kernel_rfl) (by kernel_rfl) (Below.refl _ _) ?_
    repeat (go_big_quiet_step (first | (go_at_call 15; with_reducible exact Since.calls _ (HT1.out _)) | (go_at_call 15; with_reducible exact Since.calls _ (HT2.out _ v u HV.out HU.out)) | (go_at_call 15; with_reducible exact Since.calls _ (HT2.out _ y x HYX.out.1 HYX.out.2))))
    refine wpQuiet_nil ?_
    intro _ hw'
    obtain ⟨nq, hw2⟩ := hw'
    subst hw2
    have HBq : Hid (Below w.heap.size w nq.w) := later HBc.out nq.h
    clear hne c0 d0 c1 d1 c2 d2 c3 d3 c4 d4 c5 d5 c6 d6 c7 d7 c8 d8 c9 d9 c10 d10
    go_wp2_with fail
    go_ret
    exact ⟨rfl, HBq.out⟩
end Go.Proofs.Ytphaaolnmbadcaa
