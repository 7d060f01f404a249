/-
  The law RouteNone (package shunterlaw14), walked. Conditions: that package route comes to what RouteSpec says.
-/
import Derived.Test.YtphaaolnmbadcaaRouteTellsA
namespace Go.Proofs.Ytphaaolnmbadcaa
open Go.ChangeShapes Go.WideShapes Go.ChangeAt Go.RowKit
set_option linter.unusedVariables false

namespace Route
theorem full_none {N : Nat} (h2 : 2 ≤ N) (h6 : N ≤ 6) : Plan.full 0 N = [] := by
  have h : N = 2 ∨ N = 3 ∨ N = 4 ∨ N = 5 ∨ N = 6 := by omega
  rcases h with rfl | rfl | rfl | rfl | rfl <;> decide
theorem port_none (v u : Int) : Plan.port [] v u = -1 := rfl
theorem go_none (rs : List (List Int)) (w : Int) (f : Nat) {v : Int} (h : v ≠ w) : go [] rs w f v = [] := go_no h (by rw [port_none]; omega)
theorem none_bad {N : Nat} (h2 : 2 ≤ N) (rs : List (List Int)) : Bad (N : Int) [] rs := .inl ⟨0, 1, by omega, by omega, by omega, go_none _ _ _ (by omega)⟩
end Route
theorem Bx.setL {w : World} {b : Nat} {p : PV} (h : Bx w b p) (z : Int) : Bx (w.setCell ⟨b, 2, none⟩ (.int .i64 z)) b { p with lanes := z } := by
  refine ⟨⟨cell_set h.x.c0 (by omega), cell_set h.x.c1 (by omega), World.cell?_setCell_same _ _ _ h.x.c2, cell_set h.x.c3 (by omega), cell_set h.x.c4 (by omega), cell_set h.x.c5 (by omega), cell_set h.x.c6 (by omega), cell_set h.x.c7 (by omega), cell_set h.x.c8 (by omega), cell_set h.x.c9 (by omega), cell_set h.x.c10 (by omega)⟩, fun k => by rw [World.frozen?_setCell]; exact h.f k⟩
theorem PlN.lanes {w : World} {p : PV} {es : List (Int × Int)} {ws : List Int} {rs : List (List Int)} (h : PlN w p es ws rs) (z : Int) (hz : I64 z) : PlN w { p with lanes := z } es ws rs :=
  ⟨⟨h.pl.he, h.pl.hw, h.pl.hn, h.pl.eb, h.pl.wb, h.pl.nb, h.pl.ec, h.pl.wc, h.pl.nc, h.pl.ei, h.pl.wi, ⟨h.pl.qi.1, hz, h.pl.qi.2.2⟩⟩, h.mr, h.ni⟩
theorem lanes_not (p : PV) (es : List (Int × Int)) (ws : List Int) (ns : List Nat) (h : p.lanes = 9) : Plan.may p.num es ws ns = false := by
  unfold Plan.may Plan.fine PV.num
  simp only [h]
  have e : Plan.bnd 9 1 3 = false := by decide
  rw [e]
  simp
set_option maxHeartbeats 8000000 in
set_option maxRecDepth 100000 in
theorem routeNone_any (S : RouteSpec) (w : World) (z0 : Int) (w0 : (Lit.int .u8 z0).wf = true) (z1 : Int) (w1 : (Lit.int .u8 z1).wf = true) (z2 : Int) (w2 : (Lit.int .u8 z2).wf = true) (z3 : Int) (w3 : (Lit.int .u8 z3).wf = true) (z4 : Int) (w4 : (Lit.int .u8 z4).wf = true) :
    Calls Try.prog 4 #[.int .u8 z0, .int .u8 z1, .int .u8 z2, .int .u8 z3, .int .u8 z4] w fun e w' => e = .returned (.bool true) ∧ Below w.heap.size w w' := by
  have b0 := bounds_u8 w0
  have b1 := bounds_u8 w1
  have b2 := bounds_u8 w2
  have b3 := bounds_u8 w3
  have b4 := bounds_u8 w4
  obtain ⟨nodes, rfl⟩ := Int.eq_ofNat_of_zero_le b0.1
  obtain ⟨room, rfl⟩ := Int.eq_ofNat_of_zero_le b1.1
  obtain ⟨more, rfl⟩ := Int.eq_ofNat_of_zero_le b2.1
  obtain ⟨A, rfl⟩ := Int.eq_ofNat_of_zero_le b3.1
  obtain ⟨B, rfl⟩ := Int.eq_ofNat_of_zero_le b4.1
  have h0 : nodes < 256 := by omega
  have h1 : room < 256 := by omega
  have h2 : more < 256 := by omega
  have hA : A < 256 := by omega
  have hB : B < 256 := by omega
  clear w0 w1 w2 w3 w4 b0 b1 b2 b3 b4
  go_enter Try.func4, Try.ntmps4
  go_wp2_with fail
  refine (makeN_is nodes room more 0 h0 h1 h2 (by omega) (oct0 w)).mono ?_
  rintro e wc ⟨q, rfl, hM, hQ, hmay, hBc⟩
  obtain ⟨hN2, hN6⟩ := Plan.mkN_b nodes
  have hN := hM.nodes
  rw [Route.full_none hN2 hN6] at hM hQ hmay
  have hnm := hM.num
  obtain ⟨N, hNe⟩ : ∃ N, Plan.mkN nodes = N := ⟨_, rfl⟩
  rw [hNe] at hN hN2 hN6 hQ hmay
  obtain ⟨ws, hws⟩ : ∃ ws, Plan.mkW more (Plan.mkL more) = ws := ⟨_, rfl⟩
  obtain ⟨rs, hrs⟩ : ∃ rs, Route.mkRows N [] = rs := ⟨_, rfl⟩
  rw [hws, hrs] at hQ hmay
  obtain ⟨qN, lanes, room', queue, rounds, every, bag, start, ea, en, ec, wa', wn, wc', na, nn, nc⟩ := q
  simp only at hN
  subst hN
  have HQc : Hid (PlN wc ⟨(N : Int), lanes, room', queue, rounds, every, bag, start, ea, en, ec, wa', wn, wc', na, nn, nc⟩ [] ws rs) := hQ
  have HWc : Hid (Below wc.heap.size wc (wc.alloc (PV.obj ⟨(N : Int), lanes, room', queue, rounds, every, bag, start, ea, en, ec, wa', wn, wc', na, nn, nc⟩))) := fresh _ _
  have HQ : Hid (PlN (wc.alloc (PV.obj ⟨(N : Int), lanes, room', queue, rounds, every, bag, start, ea, en, ec, wa', wn, wc', na, nn, nc⟩)) ⟨(N : Int), lanes, room', queue, rounds, every, bag, start, ea, en, ec, wa', wn, wc', na, nn, nc⟩ [] ws rs) := hQ.below (fresh _ _)
  have HMay : Hid (Plan.may (PV.num ⟨(N : Int), lanes, room', queue, rounds, every, bag, start, ea, en, ec, wa', wn, wc', na, nn, nc⟩) [] ws (rs.map List.length) = true) := hmay
  have HBc : Hid (Below w.heap.size w (wc.alloc (PV.obj ⟨(N : Int), lanes, room', queue, rounds, every, bag, start, ea, en, ec, wa', wn, wc', na, nn, nc⟩))) := later hBc (fresh _ _)
  have HY : Hid (Bx (wc.alloc (PV.obj ⟨(N : Int), lanes, room', queue, rounds, every, bag, start, ea, en, ec, wa', wn, wc', na, nn, nc⟩)) wc.heap.size ⟨(N : Int), lanes, room', queue, rounds, every, bag, start, ea, en, ec, wa', wn, wc', na, nn, nc⟩) := bx_new _ _
  have HBs : Hid (w.heap.size ≤ wc.heap.size) := hBc.size
  clear hM hQ hmay hBc hnm hws hrs hNe
  simp only [PV.obj] at HQ HBc HY HWc
  simp only [PV.val]
  obtain ⟨x, hx⟩ : ∃ x : Nat, (A : Int) % (N : Int) = x := ⟨A % N, by rw [Int.natCast_emod]⟩
  obtain ⟨y, hy⟩ : ∃ y : Nat, (B : Int) % (N : Int) = y := ⟨B % N, by rw [Int.natCast_emod]⟩
  have hxN : x < N := by have := Int.emod_lt_of_pos (A : Int) (show (0 : Int) < (N : Int) by omega); omega
  have hyN : y < N := by have := Int.emod_lt_of_pos (B : Int) (show (0 : Int) < (N : Int) by omega); omega
  have hN0 : N ≠ 0 := by omega
  have hN0b : ((N : Int) == 0) = false := by simp; omega
  go_upto_region 2 with fail
  generalize wc.alloc _ = W at HQ HBc HY HWc ⊢
  obtain ⟨g, hg⟩ : ∃ g, wc.heap.size = g := ⟨_, rfl⟩
  have HG : Hid (wc.heap.size = g) := hg
  rw [hg] at HY HBs HWc ⊢
  clear hg
  obtain ⟨y0, y1, y2, y3, y4, y5, y6, y7, y8, y9, y10⟩ := HY.out.x
  simp only at y0 y1 y2 y3 y4 y5 y6 y7 y8 y9 y10
  obtain ⟨k, hk⟩ : ∃ k, (if x = y then 1 else 0 : Nat) = k := ⟨_, rfl⟩
  have HPa : Hid ((Route.pathOf true (N : Int) [] rs (x : Int) (y : Int)).length = k) := by
    show _ = _
    rw [pathOf_yes ⟨by omega, by omega⟩ ⟨by omega, by omega⟩, ← hk]
    by_cases e : x = y
    · subst e
      rw [if_pos rfl, Route.go_self]
      rfl
    · rw [if_neg e, Route.go_none _ _ _ (by omega)]
      rfl
  have hkk : ((k : Int) == 1) = ((x : Int) == (y : Int)) := by
    rw [← hk]
    by_cases e : x = y
    · subst e; simp
    · rw [if_neg e]
      have : ((x : Int) == (y : Int)) = false := by simp; omega
      rw [this]
      rfl
  have hk1 : k ≤ 1 := by rw [← hk]; split <;> omega
  have HKk : Hid (((k : Int) == 1) = ((x : Int) == (y : Int))) := hkk
  clear hk hkk
  go_wp2_with fail
  refine (S.path' HQ.out HMay.out (x : Int) (y : Int) (by unfold I64; omega) (by unfold I64; omega) _ rfl k HPa.out).mono ?_
  rintro e w1 ⟨a1, c1, rfl, _, hB1⟩
  have HY1 : Hid (Bx w1 g ⟨(N : Int), lanes, room', queue, rounds, every, bag, start, ea, en, ec, wa', wn, wc', na, nn, nc⟩) := HY.out.below hB1 (cell_lt y0)
  have HQ1 : Hid (PlN w1 ⟨(N : Int), lanes, room', queue, rounds, every, bag, start, ea, en, ec, wa', wn, wc', na, nn, nc⟩ [] ws rs) := HQ.out.below hB1
  have HW1 : Hid (Below g wc w1) := HWc.out.trans (hB1.mono (Nat.le_of_lt (cell_lt y0)))
  have HB1 : Hid (Below w.heap.size w w1) := later HBc.out hB1
  clear hB1 y0 y1 y2 y3 y4 y5 y6 y7 y8 y9 y10 HY HQ HWc HBc HPa
  obtain ⟨y0, y1, y2, y3, y4, y5, y6, y7, y8, y9, y10⟩ := HY1.out.x
  simp only at y0 y1 y2 y3 y4 y5 y6 y7 y8 y9 y10
  go_wp2_with fail
  refine (S.check' HQ1.out HMay.out 140 (.inr (.inl ⟨rfl, Route.none_bad hN2 rs, rfl⟩))).mono ?_
  rintro e w2 ⟨rfl, hB2⟩
  have HY2 : Hid (Bx w2 g ⟨(N : Int), lanes, room', queue, rounds, every, bag, start, ea, en, ec, wa', wn, wc', na, nn, nc⟩) := HY1.out.below hB2 (cell_lt y0)
  have HW2 : Hid (Below g wc w2) := HW1.out.trans (hB2.mono (Nat.le_of_lt (cell_lt y0)))
  have HB2 : Hid (Below w.heap.size w w2) := later HB1.out hB2
  have hg2 : g < w2.heap.size := Nat.lt_of_lt_of_le (cell_lt y0) hB2.size
  clear hB2 y0 y1 y2 y3 y4 y5 y6 y7 y8 y9 y10 HY1 HQ1 HW1 HB1
  have c2 := HY2.out.x.c2
  have f2 := HY2.out.f 2
  simp only at c2
  go_upto_region 7 with fail
  have SG : Sans (fun i => i = g) w2 (w2.setCell ⟨g, 2, none⟩ (.int .i64 9)) := Sans.of_set _ _ _ rfl
  have HY3 : Hid (Bx (w2.setCell ⟨g, 2, none⟩ (.int .i64 9)) g ⟨(N : Int), 9, room', queue, rounds, every, bag, start, ea, en, ec, wa', wn, wc', na, nn, nc⟩) := HY2.out.setL 9
  have HW3 : Hid (Below g wc (w2.setCell ⟨g, 2, none⟩ (.int .i64 9))) := HW2.out.trans (SG.below (B := g) (by omega) (fun j e => by omega))
  have HB3 : Hid (Below w.heap.size w (w2.setCell ⟨g, 2, none⟩ (.int .i64 9))) := HB2.out.trans (SG.below (B := w.heap.size) (by have := HBs.out; omega) (fun j e => by have := HBs.out; omega))
  clear c2 f2 SG HY2 HW2 HB2
  generalize World.setCell _ _ _ = w3 at HY3 HW3 HB3 ⊢
  go_wp2_with fail
  refine (rknown_any S _).mono ?_
  rintro e w4 ⟨rfl, hB4⟩
  have hg3 := cell_lt HY3.out.x.c0
  simp only at hg3
  have HY4 : Hid (Bx w4 g ⟨(N : Int), 9, room', queue, rounds, every, bag, start, ea, en, ec, wa', wn, wc', na, nn, nc⟩) := HY3.out.below hB4 hg3
  have HW4 : Hid (Below g wc w4) := HW3.out.trans (hB4.mono (Nat.le_of_lt hg3))
  have HB4 : Hid (Below w.heap.size w w4) := later HB3.out hB4
  have HQ4 : Hid (PlN w4 ⟨(N : Int), 9, room', queue, rounds, every, bag, start, ea, en, ec, wa', wn, wc', na, nn, nc⟩ [] ws rs) := (HQc.out.below (by rw [HG.out]; exact HW4.out)).lanes 9 (by unfold I64; omega)
  clear hB4 HY3 HW3 HB3 hg3
  obtain ⟨y0, y1, y2, y3, y4, y5, y6, y7, y8, y9, y10⟩ := HY4.out.x
  simp only at y0 y1 y2 y3 y4 y5 y6 y7 y8 y9 y10
  have hkk := HKk.out
  have hkd : decide ((k : Int) ≤ 1) = true := decide_eq_true (by omega)
  have hkd' : decide (k ≤ 1) = true := decide_eq_true hk1
  go_wp2_with fail
  refine (S.check' HQ4.out (lanes_not _ _ _ _ rfl) 120 (.inl ⟨rfl, rfl⟩)).mono ?_
  rintro e w5 ⟨rfl, hB5⟩
  have HY5 : Hid (Bx w5 g ⟨(N : Int), 9, room', queue, rounds, every, bag, start, ea, en, ec, wa', wn, wc', na, nn, nc⟩) := HY4.out.below hB5 (cell_lt y0)
  have HB5 : Hid (Below w.heap.size w w5) := later HB4.out hB5
  have HQ5 : Hid (PlN w5 ⟨(N : Int), 9, room', queue, rounds, every, bag, start, ea, en, ec, wa', wn, wc', na, nn, nc⟩ [] ws rs) := HQ4.out.below hB5
  clear hB5 y0 y1 y2 y3 y4 y5 y6 y7 y8 y9 y10 HY4 HB4 HQ4 HW4
  obtain ⟨y0, y1, y2, y3, y4, y5, y6, y7, y8, y9, y10⟩ := HY5.out.x
  simp only at y0 y1 y2 y3 y4 y5 y6 y7 y8 y9 y10
  go_wp2_with fail
  refine (S.path' HQ5.out (lanes_not _ _ _ _ rfl) (x : Int) (x : Int) (by unfold I64; omega) (by unfold I64; omega) [] (pathOf_no rfl) 0 rfl).mono ?_
  rintro e w6 ⟨a6, c6, rfl, _, hB6⟩
  have HY6 : Hid (Bx w6 g ⟨(N : Int), 9, room', queue, rounds, every, bag, start, ea, en, ec, wa', wn, wc', na, nn, nc⟩) := HY5.out.below hB6 (cell_lt y0)
  have HB6 : Hid (Below w.heap.size w w6) := later HB5.out hB6
  have HQ6 : Hid (PlN w6 ⟨(N : Int), 9, room', queue, rounds, every, bag, start, ea, en, ec, wa', wn, wc', na, nn, nc⟩ [] ws rs) := HQ5.out.below hB6
  clear hB6 y0 y1 y2 y3 y4 y5 y6 y7 y8 y9 y10 HY5 HB5 HQ5
  obtain ⟨y0, y1, y2, y3, y4, y5, y6, y7, y8, y9, y10⟩ := HY6.out.x
  simp only at y0 y1 y2 y3 y4 y5 y6 y7 y8 y9 y10
  go_wp2_with fail
  refine (S.waits' HQ6.out (lanes_not _ _ _ _ rfl) [] rfl 0 rfl).mono ?_
  rintro e w7 ⟨a7, c7, rfl, _, hB7⟩
  have HB7 : Hid (Below w.heap.size w w7) := later HB6.out hB7
  clear hB7 y0 y1 y2 y3 y4 y5 y6 y7 y8 y9 y10 HY6 HB6 HQ6
  go_wp2_with fail
  go_ret
  exact ⟨rfl, HB7.out⟩
end Go.Proofs.Ytphaaolnmbadcaa
