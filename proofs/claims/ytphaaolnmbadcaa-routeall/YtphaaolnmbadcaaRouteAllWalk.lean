/-
  The law RouteAll (package shunterlaw14), walked. Conditions: that package route comes to what RouteSpec says.
-/
import Derived.Test.YtphaaolnmbadcaaRouteTellsA
namespace Go.Proofs.Ytphaaolnmbadcaa
open Go.ChangeShapes Go.WideShapes Go.ChangeAt Go.RowKit
set_option linter.unusedVariables false

namespace Route
theorem straight_parts {N : Nat} (h2 : 2 ≤ N) (h6 : N ≤ 6) : ¬ Bad (N : Int) (Plan.full 65535 N) (mkRows N []) ∧ (∀ i, i < (rowsOf N (mkRows N []) (Plan.hops (N : Int) (Plan.full 65535 N))).length → (rowsOf N (mkRows N []) (Plan.hops (N : Int) (Plan.full 65535 N))).getD i [] = []) ∧ (∀ v w : Nat, v < N → w < N → (go (Plan.full 65535 N) (mkRows N []) (w : Int) (N - 1) (v : Int)).length = if v = w then 1 else 2) ∧ (Plan.hops (N : Int) (Plan.full 65535 N)).length = N * (N - 1) := by
  have h := straight h2 h6
  unfold straightB at h
  simp only [Bool.and_eq_true] at h
  obtain ⟨⟨⟨h1, h3⟩, h4⟩, h5⟩ := h
  refine ⟨fine_not h1, fun i hi => ?_, fun v w hv hw => ?_, eq_of_beq h5⟩
  · rw [List.all_eq_true] at h3
    have := h3 _ (List.getElem_mem hi)
    rw [List.getD_eq_getElem?_getD, List.getElem?_eq_getElem hi]
    exact List.isEmpty_iff.1 this
  · rw [List.all_eq_true] at h4
    have h6 := h4 v (List.mem_range.2 hv)
    rw [List.all_eq_true] at h6
    exact eq_of_beq (h6 w (List.mem_range.2 hw))
end Route
set_option maxHeartbeats 8000000 in
set_option maxRecDepth 100000 in
theorem routeAll_any (S : RouteSpec) (w : World) (z0 : Int) (w0 : (Lit.int .u8 z0).wf = true) (z1 : Int) (w1 : (Lit.int .u8 z1).wf = true) (z2 : Int) (w2 : (Lit.int .u8 z2).wf = true) :
    Calls Try.prog 7 #[.int .u8 z0, .int .u8 z1, .int .u8 z2] w fun e w' => e = .returned (.bool true) ∧ Below w.heap.size w w' := by
  have b0 := bounds_u8 w0
  have b1 := bounds_u8 w1
  have b2 := bounds_u8 w2
  obtain ⟨nodes, rfl⟩ := Int.eq_ofNat_of_zero_le b0.1
  obtain ⟨room, rfl⟩ := Int.eq_ofNat_of_zero_le b1.1
  obtain ⟨more, rfl⟩ := Int.eq_ofNat_of_zero_le b2.1
  have h0 : nodes < 256 := by omega
  have h1 : room < 256 := by omega
  have h2 : more < 256 := by omega
  clear w0 w1 w2 b0 b1 b2
  go_enter Try.func7, Try.ntmps7
  go_wp2_with fail
  refine (makeN_is nodes room more 65535 h0 h1 h2 (by omega) (oct0 w)).mono ?_
  rintro e wc ⟨q, rfl, hM, hQ, hmay, hBc⟩
  obtain ⟨hN2, hN6⟩ := Plan.mkN_b nodes
  have hN := hM.nodes
  obtain ⟨N, hNe⟩ : ∃ N, Plan.mkN nodes = N := ⟨_, rfl⟩
  rw [hNe] at hN hN2 hN6 hQ hmay
  obtain ⟨f1, f2, f3, f4⟩ := Route.straight_parts hN2 hN6
  obtain ⟨ws, hws⟩ : ∃ ws, Plan.mkW more (Plan.mkL more) = ws := ⟨_, rfl⟩
  obtain ⟨rs, hrs⟩ : ∃ rs, Route.mkRows N [] = rs := ⟨_, rfl⟩
  obtain ⟨es, hes⟩ : ∃ es, Plan.full 65535 N = es := ⟨_, rfl⟩
  rw [hws, hrs, hes] at hQ hmay
  rw [hrs, hes] at f1 f2 f3
  rw [hes] at f4
  obtain ⟨n, hn⟩ : ∃ n, N * (N - 1) = n := ⟨_, rfl⟩
  rw [hn] at f4
  have hn36 : n ≤ 36 := by rw [← hn]; exact Nat.mul_le_mul hN6 (show N - 1 ≤ 6 by omega)
  have hwm : IntKind.i64.wrap ((N : Int) * ((N : Int) - 1)) = (n : Int) := by
    have h : N = 2 ∨ N = 3 ∨ N = 4 ∨ N = 5 ∨ N = 6 := by omega
    rw [← hn]
    rcases h with rfl | rfl | rfl | rfl | rfl <;> rfl
  have hwn : IntKind.i64.wrap ((N : Int) - 1) = (N : Int) - 1 := by simp only [IntKind.wrap_i64]; omega
  obtain ⟨W, hW⟩ : ∃ W, Route.rowsOf N rs (Plan.hops (N : Int) es) = W := ⟨_, rfl⟩
  have HWo : Hid (Route.waitsOf true (N : Int) es rs = W) := by
    show _ = _
    unfold Route.waitsOf
    rw [if_pos rfl, Int.toNat_natCast]
    exact hW
  have HWl : Hid (W.length = n) := by show _ = _; rw [← hW, Route.rowsOf_len]; exact f4
  rw [hW] at f2
  have HNb : Hid (¬ Route.Bad (N : Int) es rs) := f1
  have HE : Hid (∀ i, i < W.length → W.getD i [] = []) := f2
  have HGo : Hid (∀ v w : Nat, v < N → w < N → (Route.go es rs (w : Int) (N - 1) (v : Int)).length = if v = w then 1 else 2) := f3
  obtain ⟨qN, lanes, room', queue, rounds, every, bag, start, ea, en, ec, wa', wn, wc', na, nn, nc⟩ := q
  simp only at hN
  subst hN
  have HQ : Hid (PlN (wc.alloc (PV.obj ⟨(N : Int), lanes, room', queue, rounds, every, bag, start, ea, en, ec, wa', wn, wc', na, nn, nc⟩)) ⟨(N : Int), lanes, room', queue, rounds, every, bag, start, ea, en, ec, wa', wn, wc', na, nn, nc⟩ es ws rs) := hQ.below (fresh _ _)
  have HMay : Hid (Plan.may (PV.num ⟨(N : Int), lanes, room', queue, rounds, every, bag, start, ea, en, ec, wa', wn, wc', na, nn, nc⟩) es ws (rs.map List.length) = true) := hmay
  have HBc : Hid (Below w.heap.size w (wc.alloc (PV.obj ⟨(N : Int), lanes, room', queue, rounds, every, bag, start, ea, en, ec, wa', wn, wc', na, nn, nc⟩))) := later hBc (fresh _ _)
  have HY : Hid (Bxd (wc.alloc (PV.obj ⟨(N : Int), lanes, room', queue, rounds, every, bag, start, ea, en, ec, wa', wn, wc', na, nn, nc⟩)) wc.heap.size ⟨(N : Int), lanes, room', queue, rounds, every, bag, start, ea, en, ec, wa', wn, wc', na, nn, nc⟩) := bxd_new _ _
  clear hM hQ hmay hBc hws hrs hes hNe hW hn f1 f2 f3 f4
  simp only [PV.obj] at HQ HBc HY
  simp only [PV.val]
  go_upto_region 2 with fail
  generalize wc.alloc _ = W0 at HQ HBc HY ⊢
  obtain ⟨g, hg⟩ : ∃ g, wc.heap.size = g := ⟨_, rfl⟩
  rw [hg] at HY ⊢
  clear hg
  obtain ⟨y0, y1, y2, y3, y4, y5, y6, y7, y8, y9, y10⟩ := HY.out
  simp only at y0 y1 y2 y3 y4 y5 y6 y7 y8 y9 y10
  go_wp2_with fail
  refine (S.waits' HQ.out HMay.out W HWo.out n HWl.out).mono ?_
  rintro e w1 ⟨a1, c1, rfl, hMr, hB1⟩
  have HMr : Hid (Mr w1 a1 n W) := hMr
  have HY1 : Hid (Bxd w1 g ⟨(N : Int), lanes, room', queue, rounds, every, bag, start, ea, en, ec, wa', wn, wc', na, nn, nc⟩) := HY.out.below hB1
  have HQ1 : Hid (PlN w1 ⟨(N : Int), lanes, room', queue, rounds, every, bag, start, ea, en, ec, wa', wn, wc', na, nn, nc⟩ es ws rs) := HQ.out.below hB1
  have HB1 : Hid (Below w.heap.size w w1) := later HBc.out hB1
  clear hB1 hMr HY HQ HBc y0 y1 y2 y3 y4 y5 y6 y7 y8 y9 y10
  go_wp2_with fail
  go_loopw [9] (fun x wr => ∃ i : Nat, i ≤ n ∧ x = .int .i64 i ∧ wr = w1) (fun x _ => n - (intOf x).toNat)
  case atStart => exact ⟨0, Nat.zero_le _, rfl, rfl⟩
  case round =>
    obtain ⟨i, hi, rfl, rfl⟩ := hrel
    by_cases hin : i < n
    · have hiI : (i : Int) < (n : Int) := by omega
      obtain ⟨b, off, ra, rc, e1, cr, _⟩ := HMr.out.at hin
      subst e1
      rw [HE.out i (by have := HWl.out; omega)] at cr
      simp only [List.length_nil] at cr
      go_wp2_with fail
      go_roundw
      case rel => first | exact ⟨i + 1, by omega, by go_num, rfl⟩ | exact ⟨i + 1, by omega, by go_num, trivial⟩ | ((repeat apply Exists.intro); exact ⟨⟨i + 1, by omega, by go_num, rfl⟩, rfl⟩)
      case measure => simp [intOf]; omega
    · obtain rfl : i = n := by omega
      have z0 := HY1.out.c0
      simp only at z0
      go_wp2_with fail
      clear z0
      obtain ⟨w1', hw1⟩ : ∃ w1', w1' = wr := ⟨_, rfl⟩
      subst hw1
      go_loopw [10, 11, 12] (fun x _ _ wx => ∃ v : Nat, v ≤ N ∧ x = .int .i64 v ∧ Below w1'.heap.size w1' wx) (fun x _ _ _ => N - (intOf x).toNat)
      case atStart => exact ⟨0, Nat.zero_le _, rfl, Below.refl _ _⟩
      case round =>
        obtain ⟨v, hv, rfl, hBv⟩ := hrel
        have HBv : Hid (Below w1'.heap.size w1' wr) := hBv
        have z0 := (HY1.out.below hBv).c0
        simp only at z0
        clear hBv
        by_cases hvN : v < N
        · have hvI : (v : Int) < (N : Int) := by omega
          go_wp2_with fail
          clear z0
          go_loopw [11, 12] (fun x _ wx => ∃ u : Nat, u ≤ N ∧ x = .int .i64 u ∧ Below w1'.heap.size w1' wx) (fun x _ _ => N - (intOf x).toNat)
          case atStart => exact ⟨0, Nat.zero_le _, rfl, HBv.out⟩
          case round =>
            obtain ⟨u, hu, rfl, hBu⟩ := hrel
            have HBu : Hid (Below w1'.heap.size w1' wr) := hBu
            have HYu : Hid (Bxd wr g ⟨(N : Int), lanes, room', queue, rounds, every, bag, start, ea, en, ec, wa', wn, wc', na, nn, nc⟩) := HY1.out.below hBu
            have HQu : Hid (PlN wr ⟨(N : Int), lanes, room', queue, rounds, every, bag, start, ea, en, ec, wa', wn, wc', na, nn, nc⟩ es ws rs) := HQ1.out.below hBu
            obtain ⟨y0, y1, y2, y3, y4, y5, y6, y7, y8, y9, y10⟩ := HYu.out
            simp only at y0 y1 y2 y3 y4 y5 y6 y7 y8 y9 y10
            clear hBu
            by_cases huN : u < N
            · have huI : (u : Int) < (N : Int) := by omega
              have hgo := HGo.out v u hvN huN
              have hpa : Route.pathOf true (N : Int) es rs (v : Int) (u : Int) = Route.go es rs (u : Int) (N - 1) (v : Int) := by
                rw [pathOf_yes ⟨by omega, by omega⟩ ⟨by omega, by omega⟩, Int.toNat_natCast]
              by_cases hvu : v = u
              · subst hvu
                rw [if_pos rfl, ← hpa] at hgo
                have HLe : Hid ((Route.pathOf true (N : Int) es rs (v : Int) (v : Int)).length = 1) := hgo
                clear hgo hpa
                go_wp2_with (go_at_call 12; refine Calls.mono (S.path' HQu.out HMay.out (v : Int) (v : Int) (by unfold I64; omega) (by unfold I64; omega) _ rfl 1 HLe.out) ?_; rintro e w3 ⟨a3, c3, rfl, _, hB3⟩; have HB3 : Hid (Below w1'.heap.size w1' w3) := later HBu.out hB3; clear hB3)
                go_roundw
                case rel => first | exact ⟨v + 1, by omega, by go_num, HB3.out⟩ | ((repeat apply Exists.intro); exact ⟨⟨v + 1, by omega, by go_num, HB3.out⟩, rfl⟩)
                case measure => simp [intOf]; omega
              · rw [if_neg hvu, ← hpa] at hgo
                have HLe : Hid ((Route.pathOf true (N : Int) es rs (v : Int) (u : Int)).length = 2) := hgo
                have g1 : ((v : Int) == (u : Int)) = false := by simp; omega
                have g2 : (v == u) = false := by simpa using hvu
                clear hgo hpa
                go_wp2_with (go_at_call 12; refine Calls.mono (S.path' HQu.out HMay.out (v : Int) (u : Int) (by unfold I64; omega) (by unfold I64; omega) _ rfl 2 HLe.out) ?_; rintro e w3 ⟨a3, c3, rfl, _, hB3⟩; have HB3 : Hid (Below w1'.heap.size w1' w3) := later HBu.out hB3; clear hB3)
                go_roundw
                case rel => first | exact ⟨u + 1, by omega, by go_num, HB3.out⟩ | ((repeat apply Exists.intro); exact ⟨⟨u + 1, by omega, by go_num, HB3.out⟩, rfl⟩)
                case measure => simp [intOf]; omega
            · obtain rfl : u = N := by omega
              clear y1 y2 y3 y4 y5 y6 y7 y8 y9 y10
              go_wp2_with fail
              go_roundw
              case rel => first | exact ⟨v + 1, by omega, by go_num, HBu.out⟩ | ((repeat apply Exists.intro); exact ⟨⟨v + 1, by omega, by go_num, HBu.out⟩, rfl⟩)
              case measure => simp [intOf]; omega
        · obtain rfl : v = N := by omega
          go_wp2_with fail
          refine (rknown_any S _).mono ?_
          rintro e w4 ⟨rfl, hB4⟩
          have HB4 : Hid (Below w1'.heap.size w1' w4) := later HBv.out hB4
          have HY4 : Hid (Bxd w4 g _) := HY1.out.below HB4.out
          have HQ4 : Hid (PlN w4 _ es ws rs) := HQ1.out.below HB4.out
          clear hB4 z0
          obtain ⟨y0, y1, y2, y3, y4, y5, y6, y7, y8, y9, y10⟩ := HY4.out
          simp only at y0 y1 y2 y3 y4 y5 y6 y7 y8 y9 y10
          go_wp2_with fail
          refine (S.check' HQ4.out HMay.out 0 (.inr (.inr ⟨rfl, HNb.out, rfl⟩))).mono ?_
          rintro e w5 ⟨rfl, hB5⟩
          have HB5 : Hid (Below w1'.heap.size w1' w5) := later HB4.out hB5
          have z0 := (HY4.out.below hB5).c0
          simp only at z0
          clear hB5 y0 y1 y2 y3 y4 y5 y6 y7 y8 y9 y10
          go_wp2_with fail
          go_ret
          exact ⟨rfl, HB1.out.trans (HB5.out.mono HB1.out.size)⟩
end Go.Proofs.Ytphaaolnmbadcaa
