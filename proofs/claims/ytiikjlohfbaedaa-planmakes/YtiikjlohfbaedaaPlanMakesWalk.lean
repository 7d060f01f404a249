/-
  The law PlanMakes (package shunterlaw12), walked. Conditions: that package plan comes to what PlanSpec says.
-/
import Derived.Test.YtiikjlohfbaedaaPlanTellsA
import Derived.Test.YtiikjlohfbaedaaPlanMake
import Derived.Test.YtiikjlohfbaedaaPlanArg
import Derived.Deep.DeepCutAuto
namespace Go.Proofs.Ytiikjlohfbaedaa
open Go.ChangeShapes Go.WideShapes Go.ChangeAt Go.RowKit
set_option linter.unusedVariables false

theorem mk_errno {p : PV} {nodes room more : Nat} (h : p.num = Plan.mkNum nodes room more) (J : Nat) : Plan.errno (Plan.may p.num (Plan.full J (Plan.mkN nodes)) (Plan.mkW more (Plan.mkL more)) (List.replicate (Plan.mkN nodes) (Plan.mkN nodes))) = 0 := by
  rw [h, Plan.mk_may]
  rfl
theorem may_bad {q : Plan.Num} {es : List (Int × Int)} {ws : List Int} {ns : List Nat} (h : Plan.fine q = false) : Plan.errno (Plan.may q es ws ns) = 120 := by
  unfold Plan.may
  rw [h]
  rfl
/-- the same rows, other numbers -/
theorem Pl.other {w : World} {p q : PV} {es : List (Int × Int)} {ws : List Int} {ns : List Nat} (h : Pl w p es ws ns) (he : q.ea = p.ea ∧ q.en = p.en ∧ q.ec = p.ec) (hw : q.wa = p.wa ∧ q.wn = p.wn ∧ q.wc = p.wc) (hn : q.na = p.na ∧ q.nn = p.nn ∧ q.nc = p.nc) (hq : I64 q.nodes ∧ I64 q.lanes ∧ I64 q.room ∧ I64 q.queue ∧ I64 q.rounds ∧ I64 q.every ∧ I64 q.bag) : Pl w q es ws ns := by
  obtain ⟨e1, e2, e3⟩ := he
  obtain ⟨w1, w2, w3⟩ := hw
  obtain ⟨n1, n2, n3⟩ := hn
  refine ⟨by rw [e1, e2]; exact h.he, by rw [w1, w2]; exact h.hw, by rw [n1, n2]; exact h.hn, by rw [e2]; exact h.eb, by rw [w2]; exact h.wb, by rw [n2]; exact h.nb, by rw [e2, e3]; exact h.ec, by rw [w2, w3]; exact h.wc, by rw [n2, n3]; exact h.nc, h.ei, h.wi, hq⟩
theorem Zr.cut {w : World} {a : Option Addr} {n m : Nat} {l : List Int} (h : Zr w a n l) (hm : m ≤ n) : Zr w a m (l.take m) := by
  obtain ⟨h1, h2, h3⟩ := h
  refine ⟨by rw [List.length_take]; omega, by omega, ?_⟩
  rcases h3 with h3 | ⟨b, off, e, hlt, hc⟩
  · exact .inl (by omega)
  · refine .inr ⟨b, off, e, hlt, fun i hi => ?_⟩
    rw [hc i (by omega)]
    congr 2
    simp [List.getD_eq_getElem?_getD, hi]
set_option maxHeartbeats 16000000 in
set_option maxRecDepth 100000 in
theorem planMakes_any (S : PlanSpec) (w : World) (z0 : Int) (w0 : (Lit.int .u8 z0).wf = true) (z1 : Int) (w1 : (Lit.int .u8 z1).wf = true) (z2 : Int) (w2 : (Lit.int .u8 z2).wf = true) (z3 : Int) (w3 : (Lit.int .u16 z3).wf = true) (a : Option Addr) (n c : Nat) (l : List Nat) (ho : Octs w a n l) (z5 : Int) (w5 : (Lit.int .u8 z5).wf = true) (z6 : Int) (w6 : (Lit.int .u8 z6).wf = true) (z7 : Int) (w7 : (Lit.int .u8 z7).wf = true) :
    Calls Try.prog 7 #[.int .u8 z0, .int .u8 z1, .int .u8 z2, .int .u16 z3, .slice a n c, .int .u8 z5, .int .u8 z6, .int .u8 z7] w fun e w' => e = .returned (.bool true) ∧ Below w.heap.size w w' := by
  have b0 := bounds_u8 w0
  have b1 := bounds_u8 w1
  have b2 := bounds_u8 w2
  have b3 := bounds_u16 w3
  have b5 := bounds_u8 w5
  have b6 := bounds_u8 w6
  have b7 := bounds_u8 w7
  obtain ⟨nodes, rfl⟩ := Int.eq_ofNat_of_zero_le b0.1
  obtain ⟨room, rfl⟩ := Int.eq_ofNat_of_zero_le b1.1
  obtain ⟨more, rfl⟩ := Int.eq_ofNat_of_zero_le b2.1
  obtain ⟨J, rfl⟩ := Int.eq_ofNat_of_zero_le b3.1
  obtain ⟨v, rfl⟩ := Int.eq_ofNat_of_zero_le b5.1
  obtain ⟨u, rfl⟩ := Int.eq_ofNat_of_zero_le b6.1
  obtain ⟨k, rfl⟩ := Int.eq_ofNat_of_zero_le b7.1
  have h0 : nodes < 256 := by omega
  have h1 : room < 256 := by omega
  have h2 : more < 256 := by omega
  have h3 : J < 65536 := by omega
  have h5 : v < 256 := by omega
  have h6 : u < 256 := by omega
  have h7 : k < 256 := by omega
  have HO : Hid (Octs w a n l) := ho
  clear b0 b1 b2 b3 b5 b6 b7 w0 w1 w2 w3 w5 w6 w7 ho
  go_enter Try.func7, Try.ntmps7
  go_wp2_with fail
  refine (make_any nodes room more J h0 h1 h2 h3 HO.out).mono ?_
  rintro e w1 ⟨p, rfl, hp, hPl, hB1, _⟩
  have HP1 : Hid (Pl w1 p (Plan.full J (Plan.mkN nodes)) (Plan.mkW more (Plan.mkL more)) (List.replicate (Plan.mkN nodes) (Plan.mkN nodes))) := hPl
  have HN1 : Hid (p.num = Plan.mkNum nodes room more) := hp
  have HB1 : Hid (Below w.heap.size w w1) := hB1
  clear hPl hp hB1
  unfold PV.val
  go_upto_region 7 with (first
    | (go_at_call 15; refine (tells_any S HP3.out _ _ (by unfold I64; omega) (by unfold I64; omega)).mono ?_; rintro e w4 ⟨rfl, hB4⟩; have HX4 : Hid (Bx w4 w1.heap.size p) := HX3.out.below hB4 (cell_lt HX3.out.x.c0); have HB14 : Hid (Below w1.heap.size w1 w4) := later HB13.out hB4; obtain ⟨x0, x1, x2, x3, x4, x5, x6, x7, x8, x9, x10⟩ := HX4.out.x; clear hB4)
    | (go_at_call 11; refine (PlanSpec.check' S HP2.out 0 (mk_errno HN1.out J)).mono ?_; rintro e w3 ⟨rfl, hB3⟩; have HX3 : Hid (Bx w3 w1.heap.size p) := HX2.out.below hB3 (cell_lt HX2.out.x.c0); have HP3 : Hid (Pl w3 p (Plan.full J (Plan.mkN nodes)) (Plan.mkW more (Plan.mkL more)) (List.replicate (Plan.mkN nodes) (Plan.mkN nodes))) := HP2.out.below hB3; have HB13 : Hid (Below w1.heap.size w1 w3) := later HB12.out hB3; obtain ⟨x0, x1, x2, x3, x4, x5, x6, x7, x8, x9, x10⟩ := HX3.out.x; clear hB3)
    | (go_at_call 10; refine (known_any S _).mono ?_; rintro e w2 ⟨rfl, hB2⟩; have HX2 : Hid (Bx w2 w1.heap.size p) := (bx_new w1 p).below hB2 (by simp); have HP2 : Hid (Pl w2 p (Plan.full J (Plan.mkN nodes)) (Plan.mkW more (Plan.mkL more)) (List.replicate (Plan.mkN nodes) (Plan.mkN nodes))) := (HP1.out.below (fresh _ _)).below hB2; have HB12 : Hid (Below w1.heap.size w1 w2) := later (fresh _ _) hB2; obtain ⟨x0, x1, x2, x3, x4, x5, x6, x7, x8, x9, x10⟩ := HX2.out.x; clear hB2))
  have HQ : Hid (I64 p.nodes ∧ I64 p.lanes ∧ I64 p.room ∧ I64 p.queue ∧ I64 p.rounds ∧ I64 p.every ∧ I64 p.bag) := HP1.out.qi
  have hk8 : k % 8 = 0 ∨ k % 8 = 1 ∨ k % 8 = 2 ∨ k % 8 = 3 ∨ k % 8 = 4 ∨ k % 8 = 5 ∨ k % 8 = 6 ∨ k % 8 = 7 := by omega
  rcases hk8 with hk | hk | hk | hk | hk | hk | hk | hk
  · have hk' : (k : Int) % 8 = 0 := by omega
    have f0 := HX4.out.f 0
    have HPi : Hid (Pl (w4.setCell ⟨w1.heap.size, 0, none⟩ (.int .i64 7)) { p with nodes := 7 } (Plan.full J (Plan.mkN nodes)) (Plan.mkW more (Plan.mkL more)) (List.replicate (Plan.mkN nodes) (Plan.mkN nodes))) := (HP1.out.below (HB14.out.setCell (Nat.le_refl _) _)).other ⟨rfl, rfl, rfl⟩ ⟨rfl, rfl, rfl⟩ ⟨rfl, rfl, rfl⟩ ⟨(show I64 7 by unfold I64; omega), HQ.out.2.1, HQ.out.2.2.1, HQ.out.2.2.2.1, HQ.out.2.2.2.2.1, HQ.out.2.2.2.2.2.1, HQ.out.2.2.2.2.2.2⟩
    have HMi : Hid (Plan.errno (Plan.may (PV.num { p with nodes := 7 }) (Plan.full J (Plan.mkN nodes)) (Plan.mkW more (Plan.mkL more)) (List.replicate (Plan.mkN nodes) (Plan.mkN nodes))) = 120) := may_bad (by simp [Plan.fine, PV.num, Plan.bnd])
    go_wp2_with (go_at_call 11; refine (PlanSpec.check' S HPi.out 120 HMi.out).mono ?_; rintro e w6 ⟨rfl, hB6⟩; have HB6 : Hid (Below w.heap.size w w6) := later (later HB1.out (HB14.out.setCell (Nat.le_refl _) _)) hB6; clear hB6)
    go_ret
    exact ⟨rfl, HB6.out⟩
  · have hk' : (k : Int) % 8 = 1 := by omega
    have f2 := HX4.out.f 2
    have HPi : Hid (Pl (w4.setCell ⟨w1.heap.size, 2, none⟩ (.int .i64 0)) { p with lanes := 0 } (Plan.full J (Plan.mkN nodes)) (Plan.mkW more (Plan.mkL more)) (List.replicate (Plan.mkN nodes) (Plan.mkN nodes))) := (HP1.out.below (HB14.out.setCell (Nat.le_refl _) _)).other ⟨rfl, rfl, rfl⟩ ⟨rfl, rfl, rfl⟩ ⟨rfl, rfl, rfl⟩ ⟨HQ.out.1, (show I64 0 by unfold I64; omega), HQ.out.2.2.1, HQ.out.2.2.2.1, HQ.out.2.2.2.2.1, HQ.out.2.2.2.2.2.1, HQ.out.2.2.2.2.2.2⟩
    have HMi : Hid (Plan.errno (Plan.may (PV.num { p with lanes := 0 }) (Plan.full J (Plan.mkN nodes)) (Plan.mkW more (Plan.mkL more)) (List.replicate (Plan.mkN nodes) (Plan.mkN nodes))) = 120) := may_bad (by simp [Plan.fine, PV.num, Plan.bnd])
    go_wp2_with (go_at_call 11; refine (PlanSpec.check' S HPi.out 120 HMi.out).mono ?_; rintro e w6 ⟨rfl, hB6⟩; have HB6 : Hid (Below w.heap.size w w6) := later (later HB1.out (HB14.out.setCell (Nat.le_refl _) _)) hB6; clear hB6)
    go_ret
    exact ⟨rfl, HB6.out⟩
  · have hk' : (k : Int) % 8 = 2 := by omega
    have f3 := HX4.out.f 3
    have HPi : Hid (Pl (w4.setCell ⟨w1.heap.size, 3, none⟩ (.int .i64 9)) { p with room := 9 } (Plan.full J (Plan.mkN nodes)) (Plan.mkW more (Plan.mkL more)) (List.replicate (Plan.mkN nodes) (Plan.mkN nodes))) := (HP1.out.below (HB14.out.setCell (Nat.le_refl _) _)).other ⟨rfl, rfl, rfl⟩ ⟨rfl, rfl, rfl⟩ ⟨rfl, rfl, rfl⟩ ⟨HQ.out.1, HQ.out.2.1, (show I64 9 by unfold I64; omega), HQ.out.2.2.2.1, HQ.out.2.2.2.2.1, HQ.out.2.2.2.2.2.1, HQ.out.2.2.2.2.2.2⟩
    have HMi : Hid (Plan.errno (Plan.may (PV.num { p with room := 9 }) (Plan.full J (Plan.mkN nodes)) (Plan.mkW more (Plan.mkL more)) (List.replicate (Plan.mkN nodes) (Plan.mkN nodes))) = 120) := may_bad (by simp [Plan.fine, PV.num, Plan.bnd])
    go_wp2_with (go_at_call 11; refine (PlanSpec.check' S HPi.out 120 HMi.out).mono ?_; rintro e w6 ⟨rfl, hB6⟩; have HB6 : Hid (Below w.heap.size w w6) := later (later HB1.out (HB14.out.setCell (Nat.le_refl _) _)) hB6; clear hB6)
    go_ret
    exact ⟨rfl, HB6.out⟩
  · have hk' : (k : Int) % 8 = 3 := by omega
    have f4 := HX4.out.f 4
    have HPi : Hid (Pl (w4.setCell ⟨w1.heap.size, 4, none⟩ (.int .i64 0)) { p with queue := 0 } (Plan.full J (Plan.mkN nodes)) (Plan.mkW more (Plan.mkL more)) (List.replicate (Plan.mkN nodes) (Plan.mkN nodes))) := (HP1.out.below (HB14.out.setCell (Nat.le_refl _) _)).other ⟨rfl, rfl, rfl⟩ ⟨rfl, rfl, rfl⟩ ⟨rfl, rfl, rfl⟩ ⟨HQ.out.1, HQ.out.2.1, HQ.out.2.2.1, (show I64 0 by unfold I64; omega), HQ.out.2.2.2.2.1, HQ.out.2.2.2.2.2.1, HQ.out.2.2.2.2.2.2⟩
    have HMi : Hid (Plan.errno (Plan.may (PV.num { p with queue := 0 }) (Plan.full J (Plan.mkN nodes)) (Plan.mkW more (Plan.mkL more)) (List.replicate (Plan.mkN nodes) (Plan.mkN nodes))) = 120) := may_bad (by simp [Plan.fine, PV.num, Plan.bnd])
    go_wp2_with (go_at_call 11; refine (PlanSpec.check' S HPi.out 120 HMi.out).mono ?_; rintro e w6 ⟨rfl, hB6⟩; have HB6 : Hid (Below w.heap.size w w6) := later (later HB1.out (HB14.out.setCell (Nat.le_refl _) _)) hB6; clear hB6)
    go_ret
    exact ⟨rfl, HB6.out⟩
  · have hk' : (k : Int) % 8 = 4 := by omega
    have f5 := HX4.out.f 5
    have HPi : Hid (Pl (w4.setCell ⟨w1.heap.size, 5, none⟩ (.int .i64 5)) { p with rounds := 5 } (Plan.full J (Plan.mkN nodes)) (Plan.mkW more (Plan.mkL more)) (List.replicate (Plan.mkN nodes) (Plan.mkN nodes))) := (HP1.out.below (HB14.out.setCell (Nat.le_refl _) _)).other ⟨rfl, rfl, rfl⟩ ⟨rfl, rfl, rfl⟩ ⟨rfl, rfl, rfl⟩ ⟨HQ.out.1, HQ.out.2.1, HQ.out.2.2.1, HQ.out.2.2.2.1, (show I64 5 by unfold I64; omega), HQ.out.2.2.2.2.2.1, HQ.out.2.2.2.2.2.2⟩
    have HMi : Hid (Plan.errno (Plan.may (PV.num { p with rounds := 5 }) (Plan.full J (Plan.mkN nodes)) (Plan.mkW more (Plan.mkL more)) (List.replicate (Plan.mkN nodes) (Plan.mkN nodes))) = 120) := may_bad (by simp [Plan.fine, PV.num, Plan.bnd])
    go_wp2_with (go_at_call 11; refine (PlanSpec.check' S HPi.out 120 HMi.out).mono ?_; rintro e w6 ⟨rfl, hB6⟩; have HB6 : Hid (Below w.heap.size w w6) := later (later HB1.out (HB14.out.setCell (Nat.le_refl _) _)) hB6; clear hB6)
    go_ret
    exact ⟨rfl, HB6.out⟩
  · have hk' : (k : Int) % 8 = 5 := by omega
    have f6 := HX4.out.f 6
    have HPi : Hid (Pl (w4.setCell ⟨w1.heap.size, 6, none⟩ (.int .i64 9)) { p with every := 9 } (Plan.full J (Plan.mkN nodes)) (Plan.mkW more (Plan.mkL more)) (List.replicate (Plan.mkN nodes) (Plan.mkN nodes))) := (HP1.out.below (HB14.out.setCell (Nat.le_refl _) _)).other ⟨rfl, rfl, rfl⟩ ⟨rfl, rfl, rfl⟩ ⟨rfl, rfl, rfl⟩ ⟨HQ.out.1, HQ.out.2.1, HQ.out.2.2.1, HQ.out.2.2.2.1, HQ.out.2.2.2.2.1, (show I64 9 by unfold I64; omega), HQ.out.2.2.2.2.2.2⟩
    have HMi : Hid (Plan.errno (Plan.may (PV.num { p with every := 9 }) (Plan.full J (Plan.mkN nodes)) (Plan.mkW more (Plan.mkL more)) (List.replicate (Plan.mkN nodes) (Plan.mkN nodes))) = 120) := may_bad (by simp [Plan.fine, PV.num, Plan.bnd])
    go_wp2_with (go_at_call 11; refine (PlanSpec.check' S HPi.out 120 HMi.out).mono ?_; rintro e w6 ⟨rfl, hB6⟩; have HB6 : Hid (Below w.heap.size w w6) := later (later HB1.out (HB14.out.setCell (Nat.le_refl _) _)) hB6; clear hB6)
    go_ret
    exact ⟨rfl, HB6.out⟩
  · have hk' : (k : Int) % 8 = 6 := by omega
    have f7 := HX4.out.f 7
    have HPi : Hid (Pl (w4.setCell ⟨w1.heap.size, 7, none⟩ (.int .i64 65)) { p with bag := 65 } (Plan.full J (Plan.mkN nodes)) (Plan.mkW more (Plan.mkL more)) (List.replicate (Plan.mkN nodes) (Plan.mkN nodes))) := (HP1.out.below (HB14.out.setCell (Nat.le_refl _) _)).other ⟨rfl, rfl, rfl⟩ ⟨rfl, rfl, rfl⟩ ⟨rfl, rfl, rfl⟩ ⟨HQ.out.1, HQ.out.2.1, HQ.out.2.2.1, HQ.out.2.2.2.1, HQ.out.2.2.2.2.1, HQ.out.2.2.2.2.2.1, (show I64 65 by unfold I64; omega)⟩
    have HMi : Hid (Plan.errno (Plan.may (PV.num { p with bag := 65 }) (Plan.full J (Plan.mkN nodes)) (Plan.mkW more (Plan.mkL more)) (List.replicate (Plan.mkN nodes) (Plan.mkN nodes))) = 120) := may_bad (by simp [Plan.fine, PV.num, Plan.bnd])
    go_wp2_with (go_at_call 11; refine (PlanSpec.check' S HPi.out 120 HMi.out).mono ?_; rintro e w6 ⟨rfl, hB6⟩; have HB6 : Hid (Below w.heap.size w w6) := later (later HB1.out (HB14.out.setCell (Nat.le_refl _) _)) hB6; clear hB6)
    go_ret
    exact ⟨rfl, HB6.out⟩
  · have hk' : (k : Int) % 8 = 7 := by omega
    have f8 := HX4.out.f 8
    have hwl := HP1.out.hw.1
    rw [Plan.mkW_len] at hwl
    obtain ⟨m, hm⟩ : ∃ m, p.wn = m + 1 := ⟨p.wn - 1, by have : 1 ≤ Plan.mkL more := (by unfold Plan.mkL; omega); omega⟩
    obtain ⟨bw, ow, ea, _⟩ := HP1.out.hw.at (k := 0) (by omega)
    have hcap : m + 1 ≤ p.wc := by have := HP1.out.wc.1; omega
    have hcm := HP1.out.wc.2
    have HPi : Hid (Pl (w4.setCell ⟨w1.heap.size, 8, none⟩ (.slice (some ⟨bw, ow, none⟩) m p.wc)) { p with wa := some ⟨bw, ow, none⟩, wn := m } (Plan.full J (Plan.mkN nodes)) ((Plan.mkW more (Plan.mkL more)).take m) (List.replicate (Plan.mkN nodes) (Plan.mkN nodes))) := by
      have h := HP1.out.below (HB14.out.setCell (p := ⟨w1.heap.size, 8, none⟩) (Nat.le_refl _) (.slice (some ⟨bw, ow, none⟩) m p.wc))
      have hz := h.hw.cut (m := m) (by omega)
      rw [ea] at hz
      exact ⟨h.he, hz, h.hn, h.eb, by have := h.wb; simp only; omega, h.nb, h.ec, ⟨by simp only; omega, h.wc.2⟩, h.nc, h.ei, fun x hx => h.wi x (List.mem_of_mem_take hx), h.qi⟩
    have HMi : Hid (Plan.errno (Plan.may (PV.num { p with wa := some ⟨bw, ow, none⟩, wn := m }) (Plan.full J (Plan.mkN nodes)) ((Plan.mkW more (Plan.mkL more)).take m) (List.replicate (Plan.mkN nodes) (Plan.mkN nodes))) = 120) := by
      have e1 : p.lanes = (Plan.mkL more : Nat) := congrArg Plan.Num.lanes HN1.out
      have e2 : decide ((((Plan.mkW more (Plan.mkL more)).take m).length : Int) = p.lanes) = false := by
        rw [List.length_take, Plan.mkW_len, e1]
        exact decide_eq_false (by omega)
      show Plan.errno (Plan.may ⟨p.nodes, p.lanes, p.room, p.queue, p.rounds, p.every, p.bag⟩ _ _ _) = 120
      unfold Plan.may
      rw [e2]
      simp [Plan.errno]
    rw [hm, ea] at x8
    have HEa : Hid (p.wa = some ⟨bw, ow, none⟩ ∧ p.wn = m + 1) := ⟨ea, hm⟩
    have hm3 : m ≤ 3 := by have : Plan.mkL more ≤ 3 := (by unfold Plan.mkL; omega); omega
    clear ea hm hwl
    go_wp2_with (go_at_call 11; refine (PlanSpec.check' S HPi.out 120 HMi.out).mono ?_; rintro e w6 ⟨rfl, hB6⟩; have HB6 : Hid (Below w.heap.size w w6) := later (later HB1.out (HB14.out.setCell (Nat.le_refl _) _)) hB6; clear hB6)
    go_ret
    exact ⟨rfl, HB6.out⟩
end Go.Proofs.Ytiikjlohfbaedaa
