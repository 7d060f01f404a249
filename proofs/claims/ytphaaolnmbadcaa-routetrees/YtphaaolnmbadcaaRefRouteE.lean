/-
  The document's own Check (package shunterref14). Conditions: none but that the plan's rows are led to.
-/
import Derived.Test.YtphaaolnmbadcaaRefRouteD
namespace Go.Proofs.Ytphaaolnmbadcaa
open Go.ChangeShapes Go.WideShapes Go.ChangeAt Go.RowKit
set_option linter.unusedVariables false

set_option maxHeartbeats 8000000 in
set_option maxRecDepth 100000 in
theorem rroutes_any {w : World} {p : PV} {es : List (Int × Int)} {ws : List Int} {rs : List (List Int)} (h : PlN w p es ws rs) {b : Bool} (hb : Plan.may p.num es ws (rs.map List.length) = b) :
    Calls Try.prog 30 #[p.val] w fun e w' => ∃ z, e = .returned (.int .i64 z) ∧ Route.CheckIs b p.nodes es rs z ∧ Below w.heap.size w w' := by
  have HP : Hid (PlN w p es ws rs) := h
  have HX : Hid (Bxd (w.alloc p.obj) w.heap.size p) := bxd_new w p
  have HPb : Hid (PlN (w.alloc p.obj) p es ws rs) := h.below (fresh _ _)
  have HW : Hid (Below w.heap.size w (w.alloc p.obj)) := fresh _ _
  have HMb : Hid (Plan.may p.num es ws (rs.map List.length) = b) := hb
  clear h
  obtain ⟨x0, x1, x2, x3, x4, x5, x6, x7, x8, x9, x10⟩ := HX.out
  simp only [PV.obj] at HX HPb HW x0 x1 x2 x3 x4 x5 x6 x7 x8 x9 x10
  cases b with
  | false =>
    clear hb
    unfold PV.val
    go_enter Try.func30, Try.ntmps30
    go_wp2_with fail
    refine (rcheck_is HPb.out.pl HMb.out).mono ?_
    rintro e w1 ⟨rfl, hB1⟩
    have HB1 : Hid (Below w.heap.size w w1) := later HW.out hB1
    clear hB1 x0 x1 x2 x3 x4 x5 x6 x7 x8 x9 x10
    go_wp2_with fail
    go_ret
    exact ⟨120, rfl, .inl ⟨rfl, rfl⟩, HB1.out⟩
  | true =>
    obtain ⟨n, hm⟩ := may_n hb
    have HM : Hid (MayN p es rs n) := hm
    have hN := hm.nodes
    have hn6 := hm.two
    clear hm hb x0 x1 x2 x3 x4 x5 x6 x7 x8 x9 x10
    obtain ⟨N0, lanes, room, queue, rounds, every, bag, start, ea, en, ec, wa, wn, wc, na, nn, nc⟩ := p
    simp only at hN
    subst hN
    have hX := HX.out
    obtain ⟨x0, x1, x2, x3, x4, x5, x6, x7, x8, x9, x10⟩ := hX
    simp only at HX HPb HW x0 x1 x2 x3 x4 x5 x6 x7 x8 x9 x10
    simp only [PV.val]
    obtain ⟨W, hW⟩ : ∃ W, Route.rowsOf n rs (Plan.hops (n : Int) es) = W := ⟨_, rfl⟩
    have HWe : Hid (Route.rowsOf n rs (Plan.hops (n : Int) es) = W) := hW
    have HFit : Hid (Route.Fit W) := by show Route.Fit W; rw [← hW]; exact Route.rowsOf_fit _ _ _
    have hWl : W.length ≤ 36 := by rw [← hW, Route.rowsOf_len]; exact hops_few es hn6.2
    clear hW
    go_enter Try.func30, Try.ntmps30
    go_wp2_with fail
    refine (rcheck_is HPb.out.pl HMb.out).mono ?_
    rintro e w1 ⟨rfl, hB1⟩
    have HB1 : Hid (Below w.heap.size w w1) := later HW.out hB1
    have HX1 : Hid (Bxd w1 w.heap.size _) := HX.out.below hB1
    have HP1 : Hid (PlN w1 _ es ws rs) := HPb.out.below hB1
    clear hB1 x0 x1 x2 x3 x4 x5 x6 x7 x8 x9 x10 HX HPb HW HP
    go_wp2_with fail
    go_loopw [4, 5] (fun x _ wr => ∃ v : Nat, v ≤ n ∧ x = .int .i64 v ∧ (∀ a b : Nat, a < v → b < n → a ≠ b → Route.go es rs (b : Int) (n - 1) (a : Int) ≠ []) ∧ Below w1.heap.size w1 wr) (fun x _ _ => n - (intOf x).toNat)
    case atStart => exact ⟨0, Nat.zero_le _, rfl, fun a b ha => by omega, Below.refl _ _⟩
    case round =>
      obtain ⟨v, hv, rfl, hA, hB⟩ := hrel
      have HA : Hid (∀ a b : Nat, a < v → b < n → a ≠ b → Route.go es rs (b : Int) (n - 1) (a : Int) ≠ []) := hA
      have HB : Hid (Below w1.heap.size w1 wr) := hB
      have q0 := (HX1.out.below hB).c0
      simp only at q0
      clear hA hB
      by_cases hvn : v < n
      · have hvI : (v : Int) < (n : Int) := by omega
        go_wp2_with fail
        go_loopw [5] (fun x wr => ∃ u : Nat, u ≤ n ∧ x = .int .i64 u ∧ (∀ b : Nat, b < u → v ≠ b → Route.go es rs (b : Int) (n - 1) (v : Int) ≠ []) ∧ Below w1.heap.size w1 wr) (fun x _ => n - (intOf x).toNat)
        case atStart => exact ⟨0, Nat.zero_le _, rfl, fun b hb => by omega, HB.out⟩
        case round =>
          obtain ⟨u, hu, rfl, hA2, hB2⟩ := hrel
          have HA2 : Hid (∀ b : Nat, b < u → v ≠ b → Route.go es rs (b : Int) (n - 1) (v : Int) ≠ []) := hA2
          have HB2 : Hid (Below w1.heap.size w1 wr) := hB2
          have HX2 : Hid (Bxd wr w.heap.size _) := HX1.out.below hB2
          have HP2 : Hid (PlN wr _ es ws rs) := HP1.out.below hB2
          clear hA2 hB2 q0
          obtain ⟨x0, x1, x2, x3, x4, x5, x6, x7, x8, x9, x10⟩ := HX2.out
          simp only at x0 x1 x2 x3 x4 x5 x6 x7 x8 x9 x10
          by_cases hun : u < n
          · have huI : (u : Int) < (n : Int) := by omega
            by_cases hvu : v = u
            · subst hvu
              go_wp2_with fail
              go_roundw
              case rel =>
                have R : ∀ b : Nat, b < v + 1 → v ≠ b → Route.go es rs (b : Int) (n - 1) (v : Int) ≠ [] := fun b hb hne => HA2.out b (by omega) hne
                first | exact ⟨v + 1, by omega, by go_num, R, HB2.out⟩ | ((repeat apply Exists.intro); exact ⟨⟨v + 1, by omega, by go_num, R, HB2.out⟩, rfl⟩)
              case measure => simp [intOf]; omega
            · have g : ((v : Int) != (u : Int)) = true := by simp; omega
              have HPa : Hid (Route.pathOf true (n : Int) es rs (v : Int) (u : Int) = Route.go es rs (u : Int) (n - 1) (v : Int)) := by
                show _ = _
                rw [pathOf_yes ⟨by omega, by omega⟩ ⟨by omega, by omega⟩, Int.toNat_natCast]
              obtain ⟨G, hG⟩ : ∃ G, Route.go es rs (u : Int) (n - 1) (v : Int) = G := ⟨_, rfl⟩
              have HG : Hid (Route.go es rs (u : Int) (n - 1) (v : Int) = G) := hG
              obtain ⟨k, hk⟩ : ∃ k, G.length = k := ⟨_, rfl⟩
              have HK : Hid (G.length = k) := hk
              rw [hG] at HPa
              have HVU : Hid (v ≠ u) := hvu
              have hkb : k ≤ 6 := by have := Route.go_len es rs (u : Int) (n - 1) (v : Int); rw [hG, hk] at this; omega
              clear hG hk hvu
              by_cases hk0 : k = 0
              · subst hk0
                have HBad : Hid (Route.Bad (n : Int) es rs) := .inl ⟨v, u, hvI, huI, HVU.out, by rw [Int.toNat_natCast, HG.out]; exact List.length_eq_zero_iff.1 HK.out⟩
                go_wp2_with (go_at_call 31; refine Calls.mono (rroute_any HP2.out HMb.out (v : Int) (u : Int)) ?_; rintro e w3 ⟨x, rfl, hO, hB3⟩; rw [HPa.out] at hO; obtain ⟨a3, c3, rfl, _⟩ := zr_of_owns hO; rw [HK.out]; have HB3 : Hid (Below w1.heap.size w1 w3) := later HB2.out hB3; clear hO hB3)
                go_ret
                exact ⟨140, rfl, .inr (.inl ⟨rfl, HBad.out, rfl⟩), HB1.out.trans (HB3.out.mono HB1.out.size)⟩
              · have g2 : ((k : Int) == 0) = false := by simp; omega
                have HNe : Hid (G ≠ []) := fun e => hk0 (by rw [← HK.out, e]; rfl)
                clear hk0
                go_wp2_with (go_at_call 31; refine Calls.mono (rroute_any HP2.out HMb.out (v : Int) (u : Int)) ?_; rintro e w3 ⟨x, rfl, hO, hB3⟩; rw [HPa.out] at hO; obtain ⟨a3, c3, rfl, _⟩ := zr_of_owns hO; rw [HK.out]; have HB3 : Hid (Below w1.heap.size w1 w3) := later HB2.out hB3; clear hO hB3)
                go_roundw
                case rel =>
                  have R : ∀ b : Nat, b < u + 1 → v ≠ b → Route.go es rs (b : Int) (n - 1) (v : Int) ≠ [] := fun b hb hne => by
                    by_cases e : b = u
                    · subst e; rw [HG.out]; exact HNe.out
                    · exact HA2.out b (by omega) hne
                  first | exact ⟨u + 1, by omega, by go_num, R, HB3.out⟩ | ((repeat apply Exists.intro); exact ⟨⟨u + 1, by omega, by go_num, R, HB3.out⟩, rfl⟩)
                case measure => simp [intOf]; omega
          · obtain rfl : u = n := by omega
            go_wp2_with fail
            go_roundw
            case rel =>
              have R : ∀ a b : Nat, a < v + 1 → b < u → a ≠ b → Route.go es rs (b : Int) (u - 1) (a : Int) ≠ [] := fun a b ha hb hne => by
                by_cases e : a = v
                · subst e; exact HA2.out b hb hne
                · exact HA.out a b (by omega) hb hne
              first | exact ⟨v + 1, by omega, by go_num, R, HB2.out⟩ | ((repeat apply Exists.intro); exact ⟨⟨v + 1, by omega, by go_num, R, HB2.out⟩, rfl⟩)
            case measure => simp [intOf]; omega
      · obtain rfl : v = n := by omega
        have HX2 : Hid (Bxd wr w.heap.size _) := HX1.out.below HB.out
        have HP2 : Hid (PlN wr _ es ws rs) := HP1.out.below HB.out
        clear q0
        obtain ⟨x0, x1, x2, x3, x4, x5, x6, x7, x8, x9, x10⟩ := HX2.out
        simp only at x0 x1 x2 x3 x4 x5 x6 x7 x8 x9 x10
        go_wp2_with fail
        refine (rwaits_any HP2.out HMb.out).mono ?_
        rintro e w3 ⟨x, vs, rfl, hRb, hB3⟩
        have hWo : Route.waitsOf true (v : Int) es rs = W := by
          unfold Route.waitsOf
          rw [if_pos rfl, Int.toNat_natCast, HWe.out]
        rw [hWo] at hRb
        obtain ⟨a3, c3, rfl, hMr, _⟩ := mr_of_rb hRb
        have HMr : Hid (Mr w3 a3 W.length W) := hMr
        have HB3 : Hid (Below w1.heap.size w1 w3) := later HB.out hB3
        obtain ⟨L, hL⟩ : ∃ L, W.length = L := ⟨_, rfl⟩
        have HL : Hid (W.length = L) := hL
        rw [hL] at HMr hWl ⊢
        clear hRb hMr hB3 hWo hL x0 x1 x2 x3 x4 x5 x6 x7 x8 x9 x10
        go_wp2_with fail
        go_loopw [7] (fun x wx => ∃ i : Nat, i ≤ L ∧ x = .int .i64 i ∧ (∀ j, j < i → ¬ Route.Plus W j j) ∧ Below w3.heap.size w3 wx) (fun x _ => L - (intOf x).toNat)
        case atStart => exact ⟨0, Nat.zero_le _, rfl, fun j hj => by omega, Below.refl _ _⟩
        case round =>
          obtain ⟨i, hi, rfl, hA5, hB5⟩ := hrel
          have HA5 : Hid (∀ j, j < i → ¬ Route.Plus W j j) := hA5
          have HB5 : Hid (Below w3.heap.size w3 wr) := hB5
          have HB5' : Hid (Below w1.heap.size w1 wr) := HB3.out.trans (hB5.mono HB3.out.size)
          have HM5 : Hid (Mr wr a3 L W) := HMr.out.below hB5
          clear hA5 hB5
          by_cases hiL : i < L
          · have hiI : (i : Int) < (L : Int) := by omega
            have HRe : Hid ((Route.sweeps W i L).getD i 0 = 1 ↔ Route.Plus W i i) := by
              have h := Route.reached (f := i) HFit.out i (by have := HL.out; omega)
              rw [HL.out] at h
              exact h
            obtain ⟨S, hS⟩ : ∃ S, Route.sweeps W i L = S := ⟨_, rfl⟩
            have HS : Hid (Route.sweeps W i L = S) := hS
            have HSl : Hid (S.length = L) := by show _ = _; rw [← hS, (Route.sweeps_marks W i L).len, HL.out]
            rw [hS] at HRe
            obtain ⟨y, hy⟩ : ∃ y, S.getD i 0 = y := ⟨_, rfl⟩
            have HY : Hid (S.getD i 0 = y) := hy
            clear hS hy
            go_wp2_with fail
            refine (rreached_any HM5.out HFit.out hWl i).mono ?_
            rintro e w6 ⟨x, rfl, hO6, hB6⟩
            rw [HS.out] at hO6
            obtain ⟨a6, c6, rfl, hz6, _⟩ := zr_of_owns hO6
            rw [HSl.out] at hz6 ⊢
            obtain ⟨b6, o6, e6, cy⟩ := hz6.at hiL
            subst e6
            rw [HY.out] at cy
            have HB6 : Hid (Below w3.heap.size w3 w6) := later HB5.out hB6
            clear hO6 hz6 hB6
            by_cases hy1 : y = 1
            · have g : (y == 1) = true := by simpa using hy1
              have HPl : Hid (Route.Plus W i i) := HRe.out.1 (by rw [HY.out]; exact hy1)
              clear hy1
              go_wp2_with fail
              go_ret
              exact ⟨140, rfl, .inr (.inl ⟨rfl, .inr ⟨i, by rw [Int.toNat_natCast, HWe.out]; exact HPl.out⟩, rfl⟩), HB1.out.trans ((HB3.out.trans (HB6.out.mono HB3.out.size)).mono HB1.out.size)⟩
            · have g : (y == 1) = false := by simpa using hy1
              have HPl : Hid (¬ Route.Plus W i i) := fun h => hy1 (by rw [← HY.out]; exact HRe.out.2 h)
              clear hy1
              go_wp2_with fail
              go_roundw
              case rel =>
                have R : ∀ j, j < i + 1 → ¬ Route.Plus W j j := fun j hj => by
                  by_cases e : j = i
                  · subst e; exact HPl.out
                  · exact HA5.out j (by omega)
                first | exact ⟨i + 1, by omega, by go_num, R, HB6.out⟩ | ((repeat apply Exists.intro); exact ⟨⟨i + 1, by omega, by go_num, R, HB6.out⟩, rfl⟩)
              case measure => simp [intOf]; omega
          · obtain rfl : i = L := by omega
            have HNo : Hid (¬ Route.Bad (v : Int) es rs) := by
              rintro (⟨a, b, ha, hb, hne, h3⟩ | ⟨j, hj⟩)
              · rw [Int.toNat_natCast] at h3
                exact HA.out a b (by omega) (by omega) hne h3
              · rw [Int.toNat_natCast, HWe.out] at hj
                obtain ⟨k, e, _⟩ := hj.turn
                exact HA5.out j (by have := e.1; have := HL.out; omega) hj
            go_wp2_with fail
            go_ret
            exact ⟨0, rfl, .inr (.inr ⟨rfl, HNo.out, rfl⟩), HB1.out.trans (HB5'.out.mono HB1.out.size)⟩
end Go.Proofs.Ytphaaolnmbadcaa
