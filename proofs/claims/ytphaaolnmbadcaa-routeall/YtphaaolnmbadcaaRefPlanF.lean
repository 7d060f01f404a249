/-
  The document's Check (package shunterref12). Conditions: none but that the plan's rows are led to.
-/
import Derived.Test.YtphaaolnmbadcaaRefPlanE
namespace Go.Proofs.Ytphaaolnmbadcaa
open Go.ChangeShapes Go.WideShapes Go.ChangeAt Go.RowKit
set_option linter.unusedVariables false

set_option maxHeartbeats 8000000 in
set_option maxRecDepth 100000 in
theorem rcheck_any {w : World} {p : PV} {es : List (Int × Int)} {ws : List Int} {ns : List Nat} (h : Pl w p es ws ns) :
    Calls Try.prog 45 #[p.val] w fun e w' => e = .returned (.int .i64 (Plan.errno (Plan.may p.num es ws ns))) ∧ Below w.heap.size w w' := by
  have HP : Hid (Pl w p es ws ns) := h
  have HX : Hid (Bxd (w.alloc p.obj) w.heap.size p) := bxd_new w p
  have HW : Hid (Below w.heap.size w (w.alloc p.obj) ∧ (w.alloc p.obj).heap.size = w.heap.size + 1) := ⟨fresh _ _, by simp⟩
  have hwb := h.wb
  have hnb := h.nb
  have hwn := h.hw.1
  have hnn := h.hn.1
  obtain ⟨N, lanes, room, queue, rounds, every, bag, start, ea, en, ec, wa, wn, wc, na, nn, nc⟩ := p
  simp only [PV.val, PV.obj, PV.num] at HX HW hwb hnb hwn hnn ⊢
  have HE : Hid (Pl w ⟨N, lanes, room, queue, rounds, every, bag, start, ea, en, ec, wa, wn, wc, na, nn, nc⟩ es ws ns) := h
  have HWs : Hid (Zr w wa wn ws) := h.hw
  have HNx : Hid (Lr w na nn ns) := h.hn
  clear h HP
  cases hb0 : Plan.bnd N 2 6 with
  | false =>
    have hm : Plan.may ⟨N, lanes, room, queue, rounds, every, bag⟩ es ws ns = false := by simp [Plan.may, Plan.fine, hb0]
    have HM : Hid (Plan.may ⟨N, lanes, room, queue, rounds, every, bag⟩ es ws ns = false) := hm
    clear hm HX HE HWs HNx
    go_enter Try.func45, Try.ntmps45
    go_wp2_with (go_at_call 61; refine (rwithin_any _ _ _ _).mono ?_; rintro e w' ⟨rfl, rfl⟩)
    go_ret
    exact ⟨by rw [HM.out]; rfl, HW.out.1⟩
  | true =>
    cases hb1 : Plan.bnd lanes 1 3 with
    | false =>
      have hm : Plan.may ⟨N, lanes, room, queue, rounds, every, bag⟩ es ws ns = false := by simp [Plan.may, Plan.fine, hb1]
      have HM : Hid (Plan.may ⟨N, lanes, room, queue, rounds, every, bag⟩ es ws ns = false) := hm
      clear hm HX HE HWs HNx
      go_enter Try.func45, Try.ntmps45
      go_wp2_with (go_at_call 61; refine (rwithin_any _ _ _ _).mono ?_; rintro e w' ⟨rfl, rfl⟩)
      go_ret
      exact ⟨by rw [HM.out]; rfl, HW.out.1⟩
    | true =>
      cases hb2 : Plan.bnd room 1 8 with
      | false =>
        have hm : Plan.may ⟨N, lanes, room, queue, rounds, every, bag⟩ es ws ns = false := by simp [Plan.may, Plan.fine, hb2]
        have HM : Hid (Plan.may ⟨N, lanes, room, queue, rounds, every, bag⟩ es ws ns = false) := hm
        clear hm HX HE HWs HNx
        go_enter Try.func45, Try.ntmps45
        go_wp2_with (go_at_call 61; refine (rwithin_any _ _ _ _).mono ?_; rintro e w' ⟨rfl, rfl⟩)
        go_ret
        exact ⟨by rw [HM.out]; rfl, HW.out.1⟩
      | true =>
        cases hb3 : Plan.bnd queue 1 8 with
        | false =>
          have hm : Plan.may ⟨N, lanes, room, queue, rounds, every, bag⟩ es ws ns = false := by simp [Plan.may, Plan.fine, hb3]
          have HM : Hid (Plan.may ⟨N, lanes, room, queue, rounds, every, bag⟩ es ws ns = false) := hm
          clear hm HX HE HWs HNx
          go_enter Try.func45, Try.ntmps45
          go_wp2_with (go_at_call 61; refine (rwithin_any _ _ _ _).mono ?_; rintro e w' ⟨rfl, rfl⟩)
          go_ret
          exact ⟨by rw [HM.out]; rfl, HW.out.1⟩
        | true =>
          cases hb4 : Plan.bnd rounds 1 4 with
          | false =>
            have hm : Plan.may ⟨N, lanes, room, queue, rounds, every, bag⟩ es ws ns = false := by simp [Plan.may, Plan.fine, hb4]
            have HM : Hid (Plan.may ⟨N, lanes, room, queue, rounds, every, bag⟩ es ws ns = false) := hm
            clear hm HX HE HWs HNx
            go_enter Try.func45, Try.ntmps45
            go_wp2_with (go_at_call 61; refine (rwithin_any _ _ _ _).mono ?_; rintro e w' ⟨rfl, rfl⟩)
            go_ret
            exact ⟨by rw [HM.out]; rfl, HW.out.1⟩
          | true =>
            cases hb5 : Plan.bnd every 1 8 with
            | false =>
              have hm : Plan.may ⟨N, lanes, room, queue, rounds, every, bag⟩ es ws ns = false := by simp [Plan.may, Plan.fine, hb5]
              have HM : Hid (Plan.may ⟨N, lanes, room, queue, rounds, every, bag⟩ es ws ns = false) := hm
              clear hm HX HE HWs HNx
              go_enter Try.func45, Try.ntmps45
              go_wp2_with (go_at_call 61; refine (rwithin_any _ _ _ _).mono ?_; rintro e w' ⟨rfl, rfl⟩)
              go_ret
              exact ⟨by rw [HM.out]; rfl, HW.out.1⟩
            | true =>
              cases hb6 : Plan.bnd bag 1 64 with
              | false =>
                have hm : Plan.may ⟨N, lanes, room, queue, rounds, every, bag⟩ es ws ns = false := by simp [Plan.may, Plan.fine, hb6]
                have HM : Hid (Plan.may ⟨N, lanes, room, queue, rounds, every, bag⟩ es ws ns = false) := hm
                clear hm HX HE HWs HNx
                go_enter Try.func45, Try.ntmps45
                go_wp2_with (go_at_call 61; refine (rwithin_any _ _ _ _).mono ?_; rintro e w' ⟨rfl, rfl⟩)
                go_ret
                exact ⟨by rw [HM.out]; rfl, HW.out.1⟩
              | true =>
                cases he : Plan.edgesOk N es with
                | false =>
                  have hm : Plan.may ⟨N, lanes, room, queue, rounds, every, bag⟩ es ws ns = false := by simp [Plan.may, he]
                  have HM : Hid (Plan.may ⟨N, lanes, room, queue, rounds, every, bag⟩ es ws ns = false) := hm
                  clear hm
                  go_enter Try.func45, Try.ntmps45
                  go_wp2_with (first | (go_at_call 61; refine (rwithin_any _ _ _ _).mono ?_; rintro e w' ⟨rfl, rfl⟩) | (go_at_call 62; refine (redges_any (p := ⟨N, lanes, room, queue, rounds, every, bag, start, ea, en, ec, wa, wn, wc, na, nn, nc⟩) (HE.out.below (fresh _ _))).mono ?_; rintro e w1 ⟨rfl, hB1⟩; obtain ⟨x0, x1, x2, x3, x4, x5, x6, x7, x8, x9, x10⟩ := HX.out.below hB1; have HX1 : Hid (Bxd w1 w.heap.size ⟨N, lanes, room, queue, rounds, every, bag, start, ea, en, ec, wa, wn, wc, na, nn, nc⟩) := HX.out.below hB1; have HB1 : Hid (Below w.heap.size w w1) := later (fresh _ _) hB1; simp only at x0 x2 x8 x10; clear hB1 x1 x3 x4 x5 x6 x7 x9))
                  go_ret
                  exact ⟨by rw [HM.out]; rfl, HB1.out⟩
                | true =>
                  by_cases hl : (wn : Int) = lanes
                  · have hl' : ((wn : Int) != lanes) = false := by simpa using hl
                    cases hw : Plan.wsOk ws with
                    | false =>
                      have hm : Plan.may ⟨N, lanes, room, queue, rounds, every, bag⟩ es ws ns = false := by simp [Plan.may, hw]
                      have HM : Hid (Plan.may ⟨N, lanes, room, queue, rounds, every, bag⟩ es ws ns = false) := hm
                      clear hm
                      go_enter Try.func45, Try.ntmps45
                      go_wp2_with (first | (go_at_call 61; refine (rwithin_any _ _ _ _).mono ?_; rintro e w' ⟨rfl, rfl⟩) | (go_at_call 62; refine (redges_any (p := ⟨N, lanes, room, queue, rounds, every, bag, start, ea, en, ec, wa, wn, wc, na, nn, nc⟩) (HE.out.below (fresh _ _))).mono ?_; rintro e w1 ⟨rfl, hB1⟩; obtain ⟨x0, x1, x2, x3, x4, x5, x6, x7, x8, x9, x10⟩ := HX.out.below hB1; have HX1 : Hid (Bxd w1 w.heap.size ⟨N, lanes, room, queue, rounds, every, bag, start, ea, en, ec, wa, wn, wc, na, nn, nc⟩) := HX.out.below hB1; have HB1 : Hid (Below w.heap.size w w1) := later (fresh _ _) hB1; simp only at x0 x2 x8 x10; clear hB1 x1 x3 x4 x5 x6 x7 x9) | (go_at_call 63; refine (rwheel_any (HWs.out.below HB1.out) hwb).mono ?_; rintro e w2 ⟨q, rfl, hq, hB2⟩; obtain ⟨y0, y1, y2, y3, y4, y5, y6, y7, y8, y9, y10⟩ := HX1.out.below hB2; have HB2 : Hid (Below w.heap.size w w2) := later HB1.out hB2; rw [hw] at hq; obtain rfl : q = none := (by cases q with | none => rfl | some _ => cases hq); simp only at y0 y10; clear hB2 hq y1 y2 y3 y4 y5 y6 y7 y8 y9))
                      go_ret
                      exact ⟨by rw [HM.out]; rfl, HB2.out⟩
                    | true =>
                      by_cases hN : (nn : Int) = N
                      · have hN' : ((nn : Int) != N) = false := by simpa using hN
                        have HN0 : Hid ((nn : Int) = N) := hN
                        have HMay : Hid (Plan.may ⟨N, lanes, room, queue, rounds, every, bag⟩ es ws ns = ns.all (fun n => decide ((n : Int) = N))) := by
                          show _ = _
                          simp [Plan.may, Plan.fine, hb0, hb1, hb2, hb3, hb4, hb5, hb6, he, hw, hwn, hnn, hl, hN]
                        clear hN
                        go_enter Try.func45, Try.ntmps45
                        go_wp2_with (first | (go_at_call 61; refine (rwithin_any _ _ _ _).mono ?_; rintro e w' ⟨rfl, rfl⟩) | (go_at_call 62; refine (redges_any (p := ⟨N, lanes, room, queue, rounds, every, bag, start, ea, en, ec, wa, wn, wc, na, nn, nc⟩) (HE.out.below (fresh _ _))).mono ?_; rintro e w1 ⟨rfl, hB1⟩; obtain ⟨x0, x1, x2, x3, x4, x5, x6, x7, x8, x9, x10⟩ := HX.out.below hB1; have HX1 : Hid (Bxd w1 w.heap.size ⟨N, lanes, room, queue, rounds, every, bag, start, ea, en, ec, wa, wn, wc, na, nn, nc⟩) := HX.out.below hB1; have HB1 : Hid (Below w.heap.size w w1) := later (fresh _ _) hB1; simp only at x0 x2 x8 x10; clear hB1 x1 x3 x4 x5 x6 x7 x9) | (go_at_call 63; refine (rwheel_any (HWs.out.below HB1.out) hwb).mono ?_; rintro e w2 ⟨q, rfl, hq, hB2⟩; obtain ⟨y0, y1, y2, y3, y4, y5, y6, y7, y8, y9, y10⟩ := HX1.out.below hB2; have HB2 : Hid (Below w.heap.size w w2) := later HB1.out hB2; rw [hw] at hq; obtain ⟨ad, rfl⟩ : ∃ ad, q = some ad := (by cases q with | none => cases hq | some ad => exact ⟨ad, rfl⟩); simp only at y0 y10; clear hB2 hq y1 y2 y3 y4 y5 y6 y7 y8 y9))
                        go_loopw [4] (fun i wr => ∃ k : Nat, k ≤ nn ∧ i = .int .i64 k ∧ (∀ j, j < k → (ns.getD j 0 : Int) = N) ∧ Below w2.heap.size w2 wr) (fun i _ => nn - (intOf i).toNat)
                        case atStart => exact ⟨0, Nat.zero_le _, rfl, fun j hj => by omega, Below.refl _ _⟩
                        case round =>
                          obtain ⟨k, hk, rfl, hA, hB3⟩ := hrel
                          have HA : Hid (∀ j, j < k → (ns.getD j 0 : Int) = N) := hA
                          have HB3 : Hid (Below w2.heap.size w2 wr) := hB3
                          have z0 := (hB3.cell (p := ⟨_, 0, none⟩) (cell_lt y0)).trans y0
                          have z10 := (hB3.cell (p := ⟨_, 10, none⟩) (cell_lt y10)).trans y10
                          have HBw : Hid (Below w.heap.size w wr) := later HB2.out hB3
                          clear hA hB3
                          by_cases hkn : k < nn
                          · obtain ⟨b, off, ra, rc, ha, hc, hlc, hrm, _⟩ := (HNx.out.below HBw.out).at hkn
                            subst ha
                            obtain ⟨m, hm⟩ : ∃ m, ns.getD k 0 = m := ⟨_, rfl⟩
                            have HMk : Hid (ns.getD k 0 = m) := hm
                            rw [hm] at hc hlc
                            clear hm y0 y10
                            by_cases hmN : (m : Int) = N
                            · have hmN' : ((m : Int) != N) = false := by simpa using hmN
                              have HmN : Hid ((m : Int) = N) := hmN
                              clear hmN
                              go_wp2_with fail
                              go_region
                              go_wp2_with fail
                              go_roundw
                              case rel =>
                                have R1 : ∀ j, j < k + 1 → (ns.getD j 0 : Int) = N := fun j hj => by
                                  by_cases e : j = k
                                  · rw [e, HMk.out]; exact HmN.out
                                  · exact HA.out j (by omega)
                                first | exact ⟨k + 1, by omega, by go_num, R1, HB3.out.drew⟩ | ((repeat apply Exists.intro); exact ⟨⟨k + 1, by omega, by go_num, R1, HB3.out.drew⟩, rfl⟩)
                              case measure => simp [intOf]; omega
                            · have hmN' : ((m : Int) != N) = true := by simpa using hmN
                              have hf : ns.all (fun n => decide ((n : Int) = N)) = false := by
                                rw [List.all_eq_false]
                                refine ⟨m, ?_, by simpa using hmN⟩
                                rw [← HMk.out, List.getD_eq_getElem?_getD, List.getElem?_eq_getElem (by omega)]
                                exact List.getElem_mem _
                              rw [← HMay.out] at hf
                              have HM : Hid (Plan.may ⟨N, lanes, room, queue, rounds, every, bag⟩ es ws ns = false) := hf
                              clear hf hmN
                              go_wp2_with fail
                              go_region
                              go_wp2_with fail
                              go_ret
                              exact ⟨by rw [HM.out]; rfl, HBw.out.drew⟩
                          · obtain rfl : k = nn := by omega
                            have hf : ns.all (fun n => decide ((n : Int) = N)) = true := by
                              rw [List.all_eq_true]
                              intro x hx
                              obtain ⟨j, hj, rfl⟩ := List.getElem_of_mem hx
                              have := HA.out j (by omega)
                              rw [List.getD_eq_getElem?_getD, List.getElem?_eq_getElem hj] at this
                              exact decide_eq_true this
                            rw [← HMay.out] at hf
                            have HM : Hid (Plan.may ⟨N, lanes, room, queue, rounds, every, bag⟩ es ws ns = true) := hf
                            clear hf
                            go_wp2_with fail
                            go_ret
                            exact ⟨by rw [HM.out]; rfl, HBw.out⟩
                      · have hN' : ((nn : Int) != N) = true := by simpa using hN
                        have hm : Plan.may ⟨N, lanes, room, queue, rounds, every, bag⟩ es ws ns = false := by simp [Plan.may, hnn, hN]
                        have HM : Hid (Plan.may ⟨N, lanes, room, queue, rounds, every, bag⟩ es ws ns = false) := hm
                        clear hm
                        go_enter Try.func45, Try.ntmps45
                        go_wp2_with (first | (go_at_call 61; refine (rwithin_any _ _ _ _).mono ?_; rintro e w' ⟨rfl, rfl⟩) | (go_at_call 62; refine (redges_any (p := ⟨N, lanes, room, queue, rounds, every, bag, start, ea, en, ec, wa, wn, wc, na, nn, nc⟩) (HE.out.below (fresh _ _))).mono ?_; rintro e w1 ⟨rfl, hB1⟩; obtain ⟨x0, x1, x2, x3, x4, x5, x6, x7, x8, x9, x10⟩ := HX.out.below hB1; have HX1 : Hid (Bxd w1 w.heap.size ⟨N, lanes, room, queue, rounds, every, bag, start, ea, en, ec, wa, wn, wc, na, nn, nc⟩) := HX.out.below hB1; have HB1 : Hid (Below w.heap.size w w1) := later (fresh _ _) hB1; simp only at x0 x2 x8 x10; clear hB1 x1 x3 x4 x5 x6 x7 x9) | (go_at_call 63; refine (rwheel_any (HWs.out.below HB1.out) hwb).mono ?_; rintro e w2 ⟨q, rfl, hq, hB2⟩; obtain ⟨y0, y1, y2, y3, y4, y5, y6, y7, y8, y9, y10⟩ := HX1.out.below hB2; have HB2 : Hid (Below w.heap.size w w2) := later HB1.out hB2; rw [hw] at hq; obtain ⟨ad, rfl⟩ : ∃ ad, q = some ad := (by cases q with | none => cases hq | some ad => exact ⟨ad, rfl⟩); simp only at y0 y10; clear hB2 hq y1 y2 y3 y4 y5 y6 y7 y8 y9))
                        go_ret
                        exact ⟨by rw [HM.out]; rfl, HB2.out⟩
                  · have hl' : ((wn : Int) != lanes) = true := by simpa using hl
                    have hm : Plan.may ⟨N, lanes, room, queue, rounds, every, bag⟩ es ws ns = false := by simp [Plan.may, hwn, hl]
                    have HM : Hid (Plan.may ⟨N, lanes, room, queue, rounds, every, bag⟩ es ws ns = false) := hm
                    clear hm
                    go_enter Try.func45, Try.ntmps45
                    go_wp2_with (first | (go_at_call 61; refine (rwithin_any _ _ _ _).mono ?_; rintro e w' ⟨rfl, rfl⟩) | (go_at_call 62; refine (redges_any (p := ⟨N, lanes, room, queue, rounds, every, bag, start, ea, en, ec, wa, wn, wc, na, nn, nc⟩) (HE.out.below (fresh _ _))).mono ?_; rintro e w1 ⟨rfl, hB1⟩; obtain ⟨x0, x1, x2, x3, x4, x5, x6, x7, x8, x9, x10⟩ := HX.out.below hB1; have HX1 : Hid (Bxd w1 w.heap.size ⟨N, lanes, room, queue, rounds, every, bag, start, ea, en, ec, wa, wn, wc, na, nn, nc⟩) := HX.out.below hB1; have HB1 : Hid (Below w.heap.size w w1) := later (fresh _ _) hB1; simp only at x0 x2 x8 x10; clear hB1 x1 x3 x4 x5 x6 x7 x9))
                    go_ret
                    exact ⟨by rw [HM.out]; rfl, HB1.out⟩
end Go.Proofs.Ytphaaolnmbadcaa
