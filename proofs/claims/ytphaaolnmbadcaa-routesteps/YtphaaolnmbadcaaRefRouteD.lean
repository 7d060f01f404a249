/-
  The document's own reached (package shunterref14): to which places steps lead. Conditions: none but that the rows are led to, and lead to places.
-/
import Derived.Test.YtphaaolnmbadcaaRefRouteC
import Derived.Deep.OwnRows
namespace Go.Proofs.Ytphaaolnmbadcaa
open Go.ChangeShapes Go.WideShapes Go.ChangeAt Go.RowKit
set_option linter.unusedVariables false

theorem zcells_set (S : List Int) (k : Nat) (z : Int) : (zcells S).set k (.int .i64 z) = zcells (S.set k z) := (List.map_set ..).symm
theorem zcells_zero (n : Nat) : (madeCells #[.int .i64 0] n).toList = zcells (List.replicate n 0) := by
  rw [toList_madeCells_one]
  unfold zcells
  rw [List.map_replicate]
namespace Route
theorem mark_take {S r : List Int} {k : Nat} (h : k < r.length) : mark S (r.take (k + 1)) = (mark S (r.take k)).set (r.getD k 0).toNat 1 := by
  rw [List.take_succ_eq_append_getElem h, mark_snoc, List.getD_eq_getElem?_getD, List.getElem?_eq_getElem h]
  rfl
end Route
set_option maxHeartbeats 8000000 in
set_option maxRecDepth 100000 in
theorem rreached_any {w : World} {a : Option Addr} {L c : Nat} {W : List (List Int)} (h : Mr w a L W) (hF : Route.Fit W) (hL : L ≤ 36) (f : Nat) :
    Calls Try.prog 48 #[.slice a L c, .int .i64 (f : Nat)] w fun e w' => ∃ x, e = .returned x ∧ w'.ownsRow w.heap.size 3 1 x (Route.sweeps W f L).length (zcells (Route.sweeps W f L)) ∧ Below w.heap.size w w' := by
  have HR : Hid (Mr w a L W) := h
  have HF : Hid (Route.Fit W) := hF
  have HLn : Hid (W.length = L) := h.1
  obtain ⟨fz, hfz⟩ : ∃ fz : Int, ((f : Nat) : Int) = fz := ⟨_, rfl⟩
  have HFz : Hid (((f : Nat) : Int) = fz) := hfz
  rw [hfz]
  clear h hF hfz
  have hmk := run_make_row' (P := Try.prog) 23 3 (.int .i64 0) 8 Try.underlying23 infoI rfl .i64 .i64 L (by omega) (by omega)
  obtain ⟨B, hBe⟩ : ∃ B, w.heap.size = B := ⟨_, rfl⟩
  have hm0 : (w.alloc (.cells (madeCells #[.int .i64 0] L) 3)).ownsRow w.heap.size 3 1 (.slice (some ⟨w.heap.size, 0, none⟩) L L) L (madeCells #[.int .i64 0] L).toList := World.ownsRow_lit w _ L (Nat.le_refl _) (by unfold maxLen; omega) (by rw [size_madeCells]; omega)
  rw [zcells_zero, hBe] at hm0
  have HM : Hid ((w.alloc (.cells (madeCells #[.int .i64 0] L) 3)).ownsRow B 3 1 (.slice (some ⟨B, 0, none⟩) L L) L (zcells (Route.sweeps W f 0))) := by
    have e : Route.sweeps W f 0 = List.replicate L 0 := by show List.replicate W.length 0 = _; rw [HLn.out]
    rw [e]
    exact hm0
  have HB0 : Hid (Below w.heap.size w (w.alloc (.cells (madeCells #[.int .i64 0] L) 3))) := fresh _ _
  have HBe : Hid (w.heap.size = B) := hBe
  clear hm0
  go_enter Try.func48, Try.ntmps48
  go_wp2_with fail
  rw [hBe] at HB0
  generalize w.alloc _ = X at HM HB0 ⊢
  clear hmk hBe
  go_loopw [6, 7, 8] (fun x _ _ wr => ∃ q : Nat, q ≤ L ∧ x = .int .i64 q ∧ wr.ownsRow B 3 1 (.slice (some ⟨B, 0, none⟩) L L) L (zcells (Route.sweeps W f q)) ∧ Below B w wr) (fun x _ _ _ => L - (intOf x).toNat)
  case atStart => exact ⟨0, Nat.zero_le _, rfl, HM.out, HB0.out⟩
  case round =>
    obtain ⟨q, hq, rfl, hO, hB⟩ := hrel
    obtain ⟨S0, hS0⟩ : ∃ S0, Route.sweeps W f q = S0 := ⟨_, rfl⟩
    have HS0 : Hid (Route.sweeps W f q = S0) := hS0
    rw [hS0] at hO
    have HM0 : Hid (Route.Marks W.length S0) := by show Route.Marks _ _; rw [← hS0]; exact Route.sweeps_marks W f q
    have HO : Hid (wr.ownsRow B 3 1 (.slice (some ⟨B, 0, none⟩) L L) L (zcells S0)) := hO
    have HB : Hid (Below B w wr) := hB
    clear hO hB hS0
    by_cases hqL : q < L
    · have hqI : (q : Int) < (L : Int) := by omega
      go_wp2_with fail
      go_loopw [7, 8] (fun x _ wr => ∃ i : Nat, i ≤ L ∧ x = .int .i64 i ∧ wr.ownsRow B 3 1 (.slice (some ⟨B, 0, none⟩) L L) L (zcells (Route.sweep W f S0 i)) ∧ Below B w wr) (fun x _ _ => L - (intOf x).toNat)
      case atStart => exact ⟨0, Nat.zero_le _, rfl, HO.out, HB.out⟩
      case round =>
        obtain ⟨i, hi, rfl, hO1, hB1⟩ := hrel
        obtain ⟨S1, hS1⟩ : ∃ S1, Route.sweep W f S0 i = S1 := ⟨_, rfl⟩
        have HS1 : Hid (Route.sweep W f S0 i = S1) := hS1
        rw [hS1] at hO1
        have HM1 : Hid (Route.Marks W.length S1) := by show Route.Marks _ _; rw [← hS1]; exact Route.sweep_marks HM0.out i
        have HO1 : Hid (wr.ownsRow B 3 1 (.slice (some ⟨B, 0, none⟩) L L) L (zcells S1)) := hO1
        have HB1 : Hid (Below B w wr) := hB1
        have hsz1 := hB1.size
        clear hO1 hB1 hS1
        by_cases hiL : i < L
        · have hiI : (i : Int) < (L : Int) := by omega
          have cS := HO1.out.cellAt i (by omega)
          rw [zcells_at (by rw [HM1.out.len, HLn.out]; exact hiL)] at cS
          obtain ⟨y, hy⟩ : ∃ y, S1.getD i 0 = y := ⟨_, rfl⟩
          have HY : Hid (S1.getD i 0 = y) := hy
          rw [hy] at cS
          clear hy
          by_cases hsk : ((i : Int) ≠ fz) ∧ y = 0
          · have g1 : ((i : Int) != fz) = true := by simpa using hsk.1
            have g2 : (y == 0) = true := by simpa using hsk.2
            have HN : Hid (Route.sweep W f S0 (i + 1) = S1) := by
              show Route.sweep1 W f (Route.sweep W f S0 i) i = S1
              rw [HS1.out]
              unfold Route.sweep1
              rw [if_pos ⟨by have := hsk.1; have := HFz.out; omega, by rw [HY.out]; exact hsk.2⟩]
            clear hsk
            go_wp2_with fail
            go_roundw
            case rel =>
              have R1 := HO1.out
              rw [← HN.out] at R1
              first | exact ⟨i + 1, by omega, by go_num, R1, HB1.out⟩ | ((repeat apply Exists.intro); exact ⟨⟨i + 1, by omega, by go_num, R1, HB1.out⟩, rfl⟩)
            case measure => simp [intOf]; omega
          · have HN : Hid (Route.sweep W f S0 (i + 1) = Route.mark S1 (W.getD i [])) := by
              show Route.sweep1 W f (Route.sweep W f S0 i) i = _
              rw [HS1.out]
              unfold Route.sweep1
              rw [if_neg (fun e => hsk ⟨by have := e.1; have := HFz.out; omega, by rw [← HY.out]; exact e.2⟩)]
            have hg : ((i : Int) != fz) = false ∨ (((i : Int) != fz) = true ∧ (y == 0) = false) := by
              by_cases e1 : (i : Int) = fz
              · exact .inl (by simpa using e1)
              · exact .inr ⟨by simpa using e1, by simpa using fun e2 => hsk ⟨e1, e2⟩⟩
            clear hsk
            obtain ⟨r, hr⟩ : ∃ r, W.getD i [] = r := ⟨_, rfl⟩
            have HRw : Hid (W.getD i [] = r) := hr
            rw [hr] at HN
            have HFr : Hid (∀ x ∈ r, 0 ≤ x ∧ x < (L : Int)) := by
              have h := HF.out i (by rw [HLn.out]; exact hiL)
              rw [HLn.out, hr] at h
              exact h
            obtain ⟨rl, hrl⟩ : ∃ rl, r.length = rl := ⟨_, rfl⟩
            have HRl : Hid (r.length = rl) := hrl
            clear hr hrl
            have hrlm : rl ≤ 9223372036854775807 := by
              obtain ⟨_, _, _, rc, _, _, _, h1, h2, _⟩ := HR.out.at hiL
              rw [HRw.out, HRl.out] at h1
              unfold maxLen at h2
              omega
            rcases hg with g1 | ⟨g1, g2⟩
            · go_wp2_with fail
              go_loopw [8] (fun x wr => ∃ k : Nat, k ≤ rl ∧ x = .int .i64 k ∧ wr.ownsRow B 3 1 (.slice (some ⟨B, 0, none⟩) L L) L (zcells (Route.mark S1 (r.take k))) ∧ Below B w wr) (fun x _ => rl - (intOf x).toNat)
              case atStart => exact ⟨0, Nat.zero_le _, rfl, by rw [List.take_zero]; exact HO1.out, HB1.out⟩
              case round =>
                obtain ⟨k, hk, rfl, hO2, hB2⟩ := hrel
                have HO2 : Hid (wr.ownsRow B 3 1 (.slice (some ⟨B, 0, none⟩) L L) L (zcells (Route.mark S1 (r.take k)))) := hO2
                have HB2 : Hid (Below B w wr) := hB2
                have hsz2 := hB2.size
                obtain ⟨rb, ro, ra, rc, ea, cr, hzr, _⟩ := (HR.out.below (by rw [HBe.out]; exact hB2)).at hiL
                rw [HRw.out] at cr hzr
                rw [HRl.out] at cr hzr
                subst ea
                by_cases hkr : k < rl
                · have hkI : (k : Int) < (rl : Int) := by omega
                  obtain ⟨kb, ko, ek, ck⟩ := hzr.at hkr
                  subst ek
                  obtain ⟨x, hx⟩ : ∃ x, r.getD k 0 = x := ⟨_, rfl⟩
                  have HXe : Hid (r.getD k 0 = x) := hx
                  rw [hx] at ck
                  have hxL : 0 ≤ x ∧ x < (L : Int) := by
                    have := HFr.out x (by rw [← hx, List.getD_eq_getElem?_getD, List.getElem?_eq_getElem (show k < r.length by have := HRl.out; omega)]; exact List.getElem_mem _)
                    exact this
                  obtain ⟨hx0, hx1⟩ := hxL
                  have hm2 : (Route.mark S1 (r.take k)).length = L := by rw [(Route.mark_marks (L := W.length) _ _ HM1.out).len, HLn.out]
                  have cS2 := hO2.cellAt x.toNat (by omega)
                  rw [zcells_at (by omega)] at cS2
                  have fS2 := hO2.frozenAt x.toNat
                  obtain ⟨y2, hy2⟩ : ∃ y, (Route.mark S1 (r.take k)).getD x.toNat 0 = y := ⟨_, rfl⟩
                  rw [hy2] at cS2
                  clear hy2 hx hO2 hB2 hm2 hzr
                  go_wp2_with fail
                  have HO3 : Hid ((wr.setCell ⟨B, x.toNat, none⟩ (.int .i64 1)).ownsRow B 3 1 (.slice (some ⟨B, 0, none⟩) L L) L (zcells (Route.mark S1 (r.take (k + 1))))) := by
                    have h := (HO2.out.stored x.toNat (.int .i64 1)).1
                    rw [zcells_set] at h
                    rw [Route.mark_take (by have := HRl.out; omega), HXe.out]
                    exact h
                  have HB3 : Hid (Below B w (wr.setCell ⟨B, x.toNat, none⟩ (.int .i64 1))) := HB2.out.trans ((Sans.of_set (F := fun j => j = B) wr ⟨B, x.toNat, none⟩ (.int .i64 1) rfl).below (B := B) (by have := HBe.out; omega) (fun j e => by omega))
                  go_roundw
                  case rel => first | exact ⟨k + 1, by omega, by go_num, HO3.out, HB3.out⟩ | ((repeat apply Exists.intro); exact ⟨⟨k + 1, by omega, by go_num, HO3.out, HB3.out⟩, rfl⟩)
                  case measure => simp [intOf]; omega
                · obtain rfl : k = rl := by omega
                  have HE : Hid (Route.mark S1 (r.take k) = Route.sweep W f S0 (i + 1)) := by
                    show _ = _
                    rw [List.take_of_length_le (by have := HRl.out; omega), HN.out]
                  rw [HE.out] at HO2
                  clear hO2 hB2 hzr
                  go_wp2_with fail
                  go_roundw
                  case rel => first | exact ⟨i + 1, by omega, by go_num, HO2.out, HB2.out⟩ | ((repeat apply Exists.intro); exact ⟨⟨i + 1, by omega, by go_num, HO2.out, HB2.out⟩, rfl⟩)
                  case measure => simp [intOf]; omega
            · go_wp2_with fail
              go_loopw [8] (fun x wr => ∃ k : Nat, k ≤ rl ∧ x = .int .i64 k ∧ wr.ownsRow B 3 1 (.slice (some ⟨B, 0, none⟩) L L) L (zcells (Route.mark S1 (r.take k))) ∧ Below B w wr) (fun x _ => rl - (intOf x).toNat)
              case atStart => exact ⟨0, Nat.zero_le _, rfl, by rw [List.take_zero]; exact HO1.out, HB1.out⟩
              case round =>
                obtain ⟨k, hk, rfl, hO2, hB2⟩ := hrel
                have HO2 : Hid (wr.ownsRow B 3 1 (.slice (some ⟨B, 0, none⟩) L L) L (zcells (Route.mark S1 (r.take k)))) := hO2
                have HB2 : Hid (Below B w wr) := hB2
                have hsz2 := hB2.size
                obtain ⟨rb, ro, ra, rc, ea, cr, hzr, _⟩ := (HR.out.below (by rw [HBe.out]; exact hB2)).at hiL
                rw [HRw.out] at cr hzr
                rw [HRl.out] at cr hzr
                subst ea
                by_cases hkr : k < rl
                · have hkI : (k : Int) < (rl : Int) := by omega
                  obtain ⟨kb, ko, ek, ck⟩ := hzr.at hkr
                  subst ek
                  obtain ⟨x, hx⟩ : ∃ x, r.getD k 0 = x := ⟨_, rfl⟩
                  have HXe : Hid (r.getD k 0 = x) := hx
                  rw [hx] at ck
                  have hxL : 0 ≤ x ∧ x < (L : Int) := by
                    have := HFr.out x (by rw [← hx, List.getD_eq_getElem?_getD, List.getElem?_eq_getElem (show k < r.length by have := HRl.out; omega)]; exact List.getElem_mem _)
                    exact this
                  obtain ⟨hx0, hx1⟩ := hxL
                  have hm2 : (Route.mark S1 (r.take k)).length = L := by rw [(Route.mark_marks (L := W.length) _ _ HM1.out).len, HLn.out]
                  have cS2 := hO2.cellAt x.toNat (by omega)
                  rw [zcells_at (by omega)] at cS2
                  have fS2 := hO2.frozenAt x.toNat
                  obtain ⟨y2, hy2⟩ : ∃ y, (Route.mark S1 (r.take k)).getD x.toNat 0 = y := ⟨_, rfl⟩
                  rw [hy2] at cS2
                  clear hy2 hx hO2 hB2 hm2 hzr
                  go_wp2_with fail
                  have HO3 : Hid ((wr.setCell ⟨B, x.toNat, none⟩ (.int .i64 1)).ownsRow B 3 1 (.slice (some ⟨B, 0, none⟩) L L) L (zcells (Route.mark S1 (r.take (k + 1))))) := by
                    have h := (HO2.out.stored x.toNat (.int .i64 1)).1
                    rw [zcells_set] at h
                    rw [Route.mark_take (by have := HRl.out; omega), HXe.out]
                    exact h
                  have HB3 : Hid (Below B w (wr.setCell ⟨B, x.toNat, none⟩ (.int .i64 1))) := HB2.out.trans ((Sans.of_set (F := fun j => j = B) wr ⟨B, x.toNat, none⟩ (.int .i64 1) rfl).below (B := B) (by have := HBe.out; omega) (fun j e => by omega))
                  go_roundw
                  case rel => first | exact ⟨k + 1, by omega, by go_num, HO3.out, HB3.out⟩ | ((repeat apply Exists.intro); exact ⟨⟨k + 1, by omega, by go_num, HO3.out, HB3.out⟩, rfl⟩)
                  case measure => simp [intOf]; omega
                · obtain rfl : k = rl := by omega
                  have HE : Hid (Route.mark S1 (r.take k) = Route.sweep W f S0 (i + 1)) := by
                    show _ = _
                    rw [List.take_of_length_le (by have := HRl.out; omega), HN.out]
                  rw [HE.out] at HO2
                  clear hO2 hB2 hzr
                  go_wp2_with fail
                  go_roundw
                  case rel => first | exact ⟨i + 1, by omega, by go_num, HO2.out, HB2.out⟩ | ((repeat apply Exists.intro); exact ⟨⟨i + 1, by omega, by go_num, HO2.out, HB2.out⟩, rfl⟩)
                  case measure => simp [intOf]; omega
        · obtain rfl : i = L := by omega
          have HN : Hid (Route.sweeps W f (q + 1) = S1) := by
            show Route.sweep W f (Route.sweeps W f q) W.length = S1
            rw [HS0.out, HLn.out, HS1.out]
          go_wp2_with fail
          go_roundw
          case rel =>
            have R1 := HO1.out
            rw [← HN.out] at R1
            first | exact ⟨q + 1, by omega, by go_num, R1, HB1.out⟩ | ((repeat apply Exists.intro); exact ⟨⟨q + 1, by omega, by go_num, R1, HB1.out⟩, rfl⟩)
          case measure => simp [intOf]; omega
    · obtain rfl : q = L := by omega
      go_wp2_with fail
      go_ret
      have hl : (Route.sweeps W f q).length = q := by rw [(Route.sweeps_marks W f q).len, HLn.out]
      have hO := HO.out
      rw [← HS0.out] at hO
      rw [HBe.out, hl]
      exact ⟨_, rfl, hO, HB.out⟩
end Go.Proofs.Ytphaaolnmbadcaa
