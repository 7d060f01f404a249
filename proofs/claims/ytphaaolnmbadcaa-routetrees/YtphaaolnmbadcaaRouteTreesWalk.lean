/-
  The law RouteTrees (package shunterlaw14), walked. Conditions: that package route comes to what RouteSpec says.
-/
import Derived.Test.YtphaaolnmbadcaaRouteTellsA
import Derived.Test.YtphaaolnmbadcaaTreeOf
namespace Go.Proofs.Ytphaaolnmbadcaa
open Go.ChangeShapes Go.WideShapes Go.ChangeAt Go.RowKit
set_option linter.unusedVariables false

theorem mk_bounds {p : PV} {nodes room more : Nat} (h : p.num = Plan.mkNum nodes room more) : Plan.bnd p.lanes 1 3 = true ∧ Plan.bnd p.room 1 8 = true ∧ Plan.bnd p.queue 1 8 = true ∧ Plan.bnd p.rounds 1 4 = true ∧ Plan.bnd p.every 1 8 = true ∧ Plan.bnd p.bag 1 64 = true := by
  have hf := Plan.mk_fine nodes room more
  rw [← h] at hf
  unfold Plan.fine PV.num at hf
  simp only [Bool.and_eq_true] at hf
  exact ⟨hf.1.1.1.1.1.2, hf.1.1.1.1.2, hf.1.1.1.2, hf.1.1.2, hf.1.2, hf.2⟩
set_option maxHeartbeats 8000000 in
set_option maxRecDepth 100000 in
theorem routeTrees_any (S : RouteSpec) (w : World) (a : Option Addr) (n c : Nat) (l : List Nat) (ho : Octs w a n l) (z0 : Int) (w0 : (Lit.int .u8 z0).wf = true) (z1 : Int) (w1 : (Lit.int .u8 z1).wf = true) (z2 : Int) (w2 : (Lit.int .u8 z2).wf = true) (z3 : Int) (w3 : (Lit.int .u8 z3).wf = true) (z4 : Int) (w4 : (Lit.int .u8 z4).wf = true) :
    Calls Try.prog 6 #[.slice a n c, .int .u8 z0, .int .u8 z1, .int .u8 z2, .int .u8 z3, .int .u8 z4] w fun e w' => e = .returned (.bool true) ∧ Below w.heap.size w w' := by
  have HO : Hid (Octs w a n l) := ho
  have b0 := bounds_u8 w0
  have b1 := bounds_u8 w1
  have b2 := bounds_u8 w2
  have b3 := bounds_u8 w3
  have b4 := bounds_u8 w4
  obtain ⟨nodes, rfl⟩ := Int.eq_ofNat_of_zero_le b0.1
  obtain ⟨room, rfl⟩ := Int.eq_ofNat_of_zero_le b1.1
  obtain ⟨more, rfl⟩ := Int.eq_ofNat_of_zero_le b2.1
  obtain ⟨A, rfl⟩ := Int.eq_ofNat_of_zero_le b3.1
  obtain ⟨B, rfl⟩ := Int.eq_ofNat_of_zero_le b4.1
  have h0 : nodes < 256 := by omega
  have h1 : room < 256 := by omega
  have h2 : more < 256 := by omega
  have hA : A < 256 := by omega
  have hB : B < 256 := by omega
  clear ho w0 w1 w2 w3 w4 b0 b1 b2 b3 b4
  have hll := Tree.ofL_len l
  have HOk : Hid (Tree.ok (Tree.ofL l) = true) := Tree.ofL_ok l
  have HLy : Hid (Tree.layOk (Tree.ofL l) = true) := Tree.ofL_lay l
  obtain ⟨T, hT⟩ : ∃ T, Tree.ofL l = T := ⟨_, rfl⟩
  have HT : Hid (Tree.ofL l = T) := hT
  rw [hT] at hll HOk HLy
  obtain ⟨m, hm⟩ : ∃ m, T.length = m := ⟨_, rfl⟩
  have HM : Hid (T.length = m) := hm
  rw [hm] at hll
  clear hT hm
  obtain ⟨hl1, hl2⟩ := hll
  go_enter Try.func6, Try.ntmps6
  go_wp2_with fail
  refine (of_any HO.out).mono ?_
  rintro e w2 ⟨t2, rfl, hown2, hB2⟩
  rw [HT.out] at hown2
  obtain ⟨ta, tc, ht2, hz2, _⟩ := zr_of_owns hown2
  rw [HM.out] at ht2 hz2
  subst ht2
  have HZ2 : Hid (Zr w2 ta m T) := hz2
  have HB2 : Hid (Below w.heap.size w w2) := hB2
  clear hown2 hz2 hB2
  go_wp2_with fail
  refine (makeN_is nodes room more 0 h0 h1 h2 (by omega) (oct0 w2)).mono ?_
  rintro e w3 ⟨q, rfl, hMk, hQ, _, hB3⟩
  have HZ3 : Hid (Zr w3 ta m T) := HZ2.out.below hB3
  have HB3 : Hid (Below w.heap.size w w3) := later HB2.out hB3
  have HQ : Hid (PlN w3 q _ _ _) := hQ
  have HNum : Hid (q.num = Plan.mkNum nodes room more) := hMk.num
  have HWn : Hid (q.wa = none → q.wn = 0 ∧ q.wc = 0) := fun e => by
    have h1 := hQ.pl.hw.1
    rw [Plan.mkW_len] at h1
    have : 1 ≤ Plan.mkL more := by unfold Plan.mkL; omega
    rcases hQ.pl.hw.2.2 with h0 | ⟨b, off, e2, _⟩
    · omega
    · rw [e] at e2; cases e2
  have HWs : Hid ((Plan.mkW more (Plan.mkL more)).length = Plan.mkL more ∧ Plan.wsOk (Plan.mkW more (Plan.mkL more)) = true ∧ q.lanes = (Plan.mkL more : Nat)) := ⟨Plan.mkW_len _ _, Plan.mkW_ok more, congrArg Plan.Num.lanes hMk.num⟩
  clear hMk hQ hB3 HZ2 HB2
  go_wp2_with fail
  refine (rlay_any HQ.out.pl HZ3.out (by omega) HWn.out).mono ?_
  rintro e w4 ⟨hE, hB4⟩
  obtain ⟨r, rfl, hLd⟩ := hE.yes HLy.out
  have hmay := laid_may' (q := r) hLd.nodes HLy.out (by rw [hLd.lanes, hLd.room, hLd.queue, hLd.rounds, hLd.every, hLd.bag]; exact mk_bounds HNum.out) HWs.out.2.1 (by rw [hLd.lanes, HWs.out.2.2, HWs.out.1])
  have hP4 := hLd.pln HQ.out.pl HOk.out
  have hN : r.nodes = ((m + 1 : Nat) : Int) := by rw [hLd.nodes, HM.out]
  obtain ⟨ws, hws⟩ : ∃ ws, Plan.mkW more (Plan.mkL more) = ws := ⟨_, rfl⟩
  rw [hws] at hmay hP4
  have HZ4 : Hid (Zr w4 ta m T) := HZ3.out.below hB4
  have HB4 : Hid (Below w.heap.size w w4) := later HB3.out hB4
  obtain ⟨N, hNm⟩ : ∃ N : Nat, m + 1 = N := ⟨_, rfl⟩
  rw [hNm] at hN
  obtain ⟨qN, lanes, room', queue, rounds, every, bag, start, ea, en, ec, wa', wn, wc', na, nn, nc⟩ := r
  simp only at hN
  subst hN
  have HR : Hid (PlN (w4.alloc (PV.obj ⟨(N : Int), lanes, room', queue, rounds, every, bag, start, ea, en, ec, wa', wn, wc', na, nn, nc⟩)) ⟨(N : Int), lanes, room', queue, rounds, every, bag, start, ea, en, ec, wa', wn, wc', na, nn, nc⟩ (Tree.edges T) ws (Tree.rows T)) := hP4.below (fresh _ _)
  have HMay : Hid (Plan.may (PV.num ⟨(N : Int), lanes, room', queue, rounds, every, bag, start, ea, en, ec, wa', wn, wc', na, nn, nc⟩) (Tree.edges T) ws ((Tree.rows T).map List.length) = true) := hmay
  have HZ5 : Hid (Zr (w4.alloc (PV.obj ⟨(N : Int), lanes, room', queue, rounds, every, bag, start, ea, en, ec, wa', wn, wc', na, nn, nc⟩)) ta m T) := HZ4.out.below (fresh _ _)
  have HB5 : Hid (Below w.heap.size w (w4.alloc (PV.obj ⟨(N : Int), lanes, room', queue, rounds, every, bag, start, ea, en, ec, wa', wn, wc', na, nn, nc⟩))) := later HB4.out (fresh _ _)
  have HY : Hid (Bxd (w4.alloc (PV.obj ⟨(N : Int), lanes, room', queue, rounds, every, bag, start, ea, en, ec, wa', wn, wc', na, nn, nc⟩)) w4.heap.size ⟨(N : Int), lanes, room', queue, rounds, every, bag, start, ea, en, ec, wa', wn, wc', na, nn, nc⟩) := bxd_new _ _
  have HNm : Hid (m + 1 = N) := hNm
  have hN2 : 2 ≤ N ∧ N ≤ 6 := by omega
  clear hE hLd hmay hP4 hws hB4 HQ HNum HWn HWs HZ3 HB3 HZ4 HB4 hNm
  obtain ⟨hN2, hN6⟩ := hN2
  simp only [PV.obj] at HR HZ5 HB5 HY
  simp only [PV.val]
  obtain ⟨x, hx⟩ : ∃ x : Nat, (A : Int) % (N : Int) = x := ⟨A % N, by rw [Int.natCast_emod]⟩
  obtain ⟨y, hy⟩ : ∃ y : Nat, (B : Int) % (N : Int) = y := ⟨B % N, by rw [Int.natCast_emod]⟩
  have hxN : x < N := by have := Int.emod_lt_of_pos (A : Int) (show (0 : Int) < (N : Int) by omega); omega
  have hyN : y < N := by have := Int.emod_lt_of_pos (B : Int) (show (0 : Int) < (N : Int) by omega); omega
  have hN0 : N ≠ 0 := by omega
  have hN0b : ((N : Int) == 0) = false := by simp; omega
  have hfine := Route.tree_fine HLy.out
  obtain ⟨hf1, hf2⟩ := hfine
  rw [HM.out, HNm.out] at hf1
  have HFi : Hid (¬ Route.Bad (N : Int) (Tree.edges T) (Tree.rows T)) := hf1
  obtain ⟨L, hL⟩ : ∃ L, Tree.path T x y = L := ⟨_, rfl⟩
  have HPa : Hid (Route.pathOf true (N : Int) (Tree.edges T) (Tree.rows T) (x : Int) (y : Int) = L) := by
    show _ = _
    rw [pathOf_yes ⟨by omega, by omega⟩ ⟨by omega, by omega⟩, Int.toNat_natCast, ← hL, ← hf2 x y (by have := HM.out; have := HNm.out; omega) (by have := HM.out; have := HNm.out; omega), HM.out]
    congr 1
    have := HNm.out
    omega
  have HPt : Hid (Tree.pathOf T (x : Int) (y : Int) = L) := by
    show _ = _
    rw [Tree.pathOf_ok HOk.out (by have := HM.out; have := HNm.out; omega) (by have := HM.out; have := HNm.out; omega)]
    exact hL
  obtain ⟨k, hk⟩ : ∃ k, L.length = k := ⟨_, rfl⟩
  have HK : Hid (L.length = k) := hk
  have hk7 : k ≤ 100 := by
    have h := Route.go_len (Tree.edges T) (Tree.rows T) (y : Int) T.length (x : Int)
    rw [hf2 x y (by have := HM.out; have := HNm.out; omega) (by have := HM.out; have := HNm.out; omega), hL, hk, HM.out] at h
    omega
  clear hf1 hf2 hL hk
  go_upto_region 3 with fail
  generalize w4.alloc _ = W at HR HZ5 HB5 HY ⊢
  obtain ⟨g, hg⟩ : ∃ g, w4.heap.size = g := ⟨_, rfl⟩
  rw [hg] at HY ⊢
  clear hg
  have z0 := HY.out.c0
  simp only at z0
  go_wp2_with fail
  refine (rknown_any S _).mono ?_
  rintro e w6 ⟨rfl, hB6⟩
  have HR6 : Hid (PlN w6 ⟨(N : Int), lanes, room', queue, rounds, every, bag, start, ea, en, ec, wa', wn, wc', na, nn, nc⟩ (Tree.edges T) ws (Tree.rows T)) := HR.out.below hB6
  have HZ6 : Hid (Zr w6 ta m T) := HZ5.out.below hB6
  have HB6 : Hid (Below w.heap.size w w6) := later HB5.out hB6
  have HY6 : Hid (Bxd w6 g ⟨(N : Int), lanes, room', queue, rounds, every, bag, start, ea, en, ec, wa', wn, wc', na, nn, nc⟩) := HY.out.below hB6
  clear hB6 HR HZ5 HB5 HY z0
  obtain ⟨y0, y1, y2, y3, y4, y5, y6, y7, y8, y9, y10⟩ := HY6.out
  simp only at y0 y1 y2 y3 y4 y5 y6 y7 y8 y9 y10
  go_wp2_with fail
  refine (S.check' HR6.out HMay.out 0 (.inr (.inr ⟨rfl, HFi.out, rfl⟩))).mono ?_
  rintro e w7 ⟨rfl, hB7⟩
  have HR7 : Hid (PlN w7 ⟨(N : Int), lanes, room', queue, rounds, every, bag, start, ea, en, ec, wa', wn, wc', na, nn, nc⟩ (Tree.edges T) ws (Tree.rows T)) := HR6.out.below hB7
  have HZ7 : Hid (Zr w7 ta m T) := HZ6.out.below hB7
  have HB7 : Hid (Below w.heap.size w w7) := later HB6.out hB7
  have HY7 : Hid (Bxd w7 g ⟨(N : Int), lanes, room', queue, rounds, every, bag, start, ea, en, ec, wa', wn, wc', na, nn, nc⟩) := HY6.out.below hB7
  clear hB7 HR6 HZ6 HB6 HY6 y0 y1 y2 y3 y4 y5 y6 y7 y8 y9 y10
  obtain ⟨y0, y1, y2, y3, y4, y5, y6, y7, y8, y9, y10⟩ := HY7.out
  simp only at y0 y1 y2 y3 y4 y5 y6 y7 y8 y9 y10
  go_wp2_with fail
  refine (S.path' HR7.out HMay.out (x : Int) (y : Int) (by unfold I64; omega) (by unfold I64; omega) L HPa.out k HK.out).mono ?_
  rintro e w8 ⟨a8, c8, rfl, hz8, hB8⟩
  have HE8 : Hid (Zr w8 a8 k L) := hz8
  have HZ8 : Hid (Zr w8 ta m T) := HZ7.out.below hB8
  have HB8 : Hid (Below w.heap.size w w8) := later HB7.out hB8
  clear hz8 hB8 HR7 HZ7 HB7 HY7 y0 y1 y2 y3 y4 y5 y6 y7 y8 y9 y10
  go_wp2_with fail
  refine (rpath_any HZ8.out (by omega) (x : Int) (y : Int)).mono ?_
  rintro e w9 ⟨x9, rfl, ho9, hB9⟩
  rw [HPt.out] at ho9
  obtain ⟨a9, c9, rfl, hz9, _⟩ := zr_of_owns ho9
  rw [HK.out] at hz9 ⊢
  have HE9 : Hid (Zr w9 a8 k L) := HE8.out.below hB9
  have HF9 : Hid (Zr w9 a9 k L) := hz9
  have HB9 : Hid (Below w.heap.size w w9) := later HB8.out hB9
  clear hz9 ho9 hB9 HE8 HZ8 HB8
  go_wp2_with fail
  refine (wsame_any HE9.out HF9.out (by omega)).mono ?_
  rintro e w10 ⟨rfl, hB10⟩
  have HB10 : Hid (Below w.heap.size w w10) := later HB9.out hB10
  clear hB10
  go_wp2_with fail
  go_ret
  exact ⟨rfl, HB10.out⟩
end Go.Proofs.Ytphaaolnmbadcaa
