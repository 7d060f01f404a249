/-
  The law NodeInjects (package shunterlaw16), walked. Conditions: the table behind masks lies as its initialiser lays it.
-/
import Derived.Test.YtniicgbkeifnjaaGreatDoorQ44
namespace Go.Proofs.YtniicgbkeifnjaaGreatDoor
open Go.ChangeShapes Go.WideShapes Go.ChangeAt Go.RowKit
set_option linter.unusedVariables false
set_option maxRecDepth 100000

namespace Nd
set_option maxHeartbeats 8000000 in
set_option maxRecDepth 100000 in
theorem nodeInjects_any (w : World) (hT : M.Tab w) {a : Option Addr} {n c : Nat} {l : List Nat} (ho : Octs w a n l) (room more v : Nat) (h1 : room < 256) (h2 : more < 256) (h3 : v < 256) (x : Pk) (hx : 0 ≤ x.b ∧ x.b < 4294967296) :
    Calls Tryz.prog 3 #[.slice a n c, .int .u8 (room : Nat), .int .u8 (more : Nat), .int .u8 (v : Nat), .agg #[.int .i64 x.s, .int .i64 x.d, .int .i64 x.l, .int .u32 x.b]] w fun e w' => e = .returned (.bool true) ∧ Below w.heap.size w w' := by
  have HT : Hid (M.Tab w) := hT
  have HO : Hid (Octs w a n l) := ho
  have HX : Hid (0 ≤ x.b ∧ x.b < 4294967296) := hx
  clear hT ho hx
  have hll := Tree.ofL_len l
  obtain ⟨xs, xd, xl, xb⟩ := x
  simp only at HX ⊢
  obtain ⟨W, hW⟩ : ∃ W, W = w.alloc (.cells #[.int .i64 xs, .int .i64 xd, .int .i64 xl, .int .u32 xb] 25) := ⟨_, rfl⟩
  have HWx : Hid (W.cell? ⟨w.heap.size, 0, none⟩ = some (.int .i64 xs) ∧ W.cell? ⟨w.heap.size, 1, none⟩ = some (.int .i64 xd) ∧ W.cell? ⟨w.heap.size, 2, none⟩ = some (.int .i64 xl) ∧ W.cell? ⟨w.heap.size, 3, none⟩ = some (.int .u32 xb)) := by rw [hW]; exact ⟨by simp, by simp, by simp, by simp⟩
  have HWb : Hid (Below w.heap.size w W ∧ w.heap.size < W.heap.size) := by rw [hW]; exact ⟨fresh _ _, by simp⟩
  go_enter Tryz.func3, Tryz.ntmps3
  go_upto_region 1 with fail
  rw [← hW]
  clear hW
  go_wp2_with fail
  refine (show Calls Tryz.prog 10 #[.slice a n c, .int .u8 (room : Nat), .int .u8 (more : Nat), .int .u16 0] W _ from plan_any (HO.out.below HWb.out.1) room more 0 h1 h2 (by omega)).mono ?_
  rintro e w1 ⟨p, rfl, hTP, hB1⟩
  have hnd := hTP.nodes
  obtain ⟨N, hN⟩ : ∃ N, (Tree.ofL l).length + 1 = N := ⟨_, rfl⟩
  rw [hN] at hnd
  have hN2 : 2 ≤ N ∧ N ≤ 6 := by omega
  have HTP : Hid (TreePlan w1 l room more 0 p) := hTP
  have HB1 : Hid (Below W.heap.size W w1) := hB1
  obtain ⟨k, hk⟩ : ∃ k : Nat, (v : Int) % (N : Int) = k := ⟨v % N, by rw [Int.natCast_emod]⟩
  have hkN : k < N := by have := Int.emod_lt_of_pos (v : Int) (show (0 : Int) < (N : Int) by omega); omega
  obtain ⟨V, hV⟩ : ∃ V, V = w1.alloc p.obj := ⟨_, rfl⟩
  have HV : Hid (Bxd V w1.heap.size p ∧ Below w1.heap.size w1 V) := by rw [hV]; exact ⟨bxd_new _ _, fresh _ _⟩
  have HTV : Hid (TreePlan V l room more 0 p) := ⟨HTP.out.pln.below HV.out.2, HTP.out.may, HTP.out.good, HTP.out.nodes, HTP.out.start, HTP.out.nums⟩
  obtain ⟨C, hC⟩ : ∃ C, cfgOf p (Tree.edges (Tree.ofL l)) (Plan.mkW more (Plan.mkL more)) (Tree.rows (Tree.ofL l)) k = C := ⟨_, rfl⟩
  have hNw := one_new HTV.out (by omega) (v := k) (by rw [hnd]; omega)
  rw [hC] at hNw
  obtain ⟨nn0, hk0⟩ := newok hTP.may hTP.good (v := k) (by rw [hnd]; omega) (by have := hTP.start; omega)
  have hq8 := hk0.queue
  have hl8 := hk0.lanes
  have HCf : Hid (C.v = k ∧ C.N = N ∧ p.lanes = (C.L : Int) ∧ p.queue = (C.q : Int) ∧ 1 ≤ C.q ∧ C.q ≤ 8) := by
    rw [← hC]
    refine ⟨rfl, ?_, ?_, ?_, ?_, ?_⟩
    · show p.nodes.toNat = N; omega
    · show p.lanes = ((p.lanes.toNat : Nat) : Int); omega
    · show p.queue = ((p.queue.toNat : Nat) : Int); omega
    · show 1 ≤ p.queue.toNat; omega
    · show p.queue.toNat ≤ 8; omega
  clear hC hk0 hq8 hl8
  clear hTP hB1 hN
  obtain ⟨nodes, lanes, room', queue, rounds, every, bag, start, ea, en, ec, wa, wn, wc, na, nn, nc⟩ := p
  simp only at hnd
  subst hnd
  obtain ⟨e1, e2, e3, e4, e5, e6⟩ := HCf.out
  simp only at e3 e4
  subst e3 e4
  unfold PV.val at hNw
  simp only at hNw
  have HNw : Hid (Calls Tryz.prog 11 #[.agg #[.int .i64 (N : Nat), .slice ea en ec, .int .i64 (C.L : Nat), .int .i64 room', .int .i64 (C.q : Nat), .int .i64 rounds, .int .i64 every, .int .i64 bag, .slice wa wn wc, .int .u16 start, .slice na nn nc], .int .i64 (k : Nat)] V fun e u' => ∃ q, e = .returned (.pointer (some ⟨q, 0, none⟩)) ∧ One V u' q C (st0 C 0) 0) := hNw
  clear hNw e1 e2 e5 e6
  simp only [PV.obj] at hV
  simp only [PV.val]
  go_upto_region 2 with fail
  rw [← hV]
  clear hV
  have hN0 : (N : Int) ≠ 0 := by omega
  have hN0b : ((N : Int) == 0) = false := by simp; omega
  obtain ⟨x0, x1, x2, x3, x4, x5, x6, x7, x8, x9, x10⟩ := HV.out.1
  simp only at x0 x1 x2 x3 x4 x5 x6 x7 x8 x9 x10
  go_wp2_with fail
  refine Calls.mono HNw.out ?_
  rintro e w3 ⟨q, rfl, hOn⟩
  have HO3 : Hid (One V w3 q C (st0 C 0) 0) := hOn
  have HBV : Hid (Below w.heap.size w V) := later (later HWb.out.1 HB1.out) HV.out.2
  have HT3 : Hid (M.Tab w3) := (HT.out.below HBV.out HT.out.lt).below hOn.base (by have := HT.out.lt; have := HBV.out.size; omega)
  clear hOn x0 x1 x2 x3 x4 x5 x6 x7 x8 x9 x10
  go_wp2_with fail
  refine (known_any w3 HT3.out).mono ?_
  rintro e w4 ⟨rfl, hB4⟩
  have HO4 : Hid (One V w4 q C (st0 C 0) 0) := HO3.out.below hB4
  have HB4 : Hid (Below V.heap.size V w4) := HO4.out.base
  clear hB4
  have HPx : Hid (∀ u : World, Below V.heap.size V u → u.cell? ⟨w.heap.size, 0, none⟩ = some (.int .i64 xs) ∧ u.cell? ⟨w.heap.size, 1, none⟩ = some (.int .i64 xd) ∧ u.cell? ⟨w.heap.size, 2, none⟩ = some (.int .i64 xl) ∧ u.cell? ⟨w.heap.size, 3, none⟩ = some (.int .u32 xb)) := fun u hu => by
    have hb : Below W.heap.size W u := later (later HB1.out HV.out.2) hu
    have hl := HWb.out.2
    exact ⟨(hb.cell (p := ⟨w.heap.size, 0, none⟩) hl).trans HWx.out.1, (hb.cell (p := ⟨w.heap.size, 1, none⟩) hl).trans HWx.out.2.1, (hb.cell (p := ⟨w.heap.size, 2, none⟩) hl).trans HWx.out.2.2.1, (hb.cell (p := ⟨w.heap.size, 3, none⟩) hl).trans HWx.out.2.2.2⟩
  have HCf2 : Hid (C.v = k ∧ C.N = N) := ⟨HCf.out.1, HCf.out.2.1⟩
  have HIn : Hid (¬ fineX C ⟨xs, xd, xl, xb⟩ → ∀ (u : World) (m : Nat), One V u q C (st0 C 0) m → Calls Tryz.prog 13 #[.pointer (some ⟨q, 0, none⟩), .agg #[.int .i64 xs, .int .i64 xd, .int .i64 xl, .int .u32 xb]] u fun e w' => e = .returned (.int .u16 1) ∧ One V w' q C (st0 C 0) (m + 1)) := fun hno u m hu => by
    have h := o_inject hu ⟨xs, xd, xl, xb⟩ HX.out
    rw [(inj_not hno).1, (inj_not hno).2] at h
    exact h
  have HYs : Hid (∀ u : World, One V u q C (many (st0 C 0) ⟨xs, xd, xl, xb⟩ C.q) C.q → fineX C ⟨xs, xd, xl, xb⟩ → Calls Tryz.prog 13 #[.pointer (some ⟨q, 0, none⟩), .agg #[.int .i64 xs, .int .i64 xd, .int .i64 xl, .int .u32 xb]] u fun e w' => e = .returned (.int .u16 150) ∧ One V w' q C (many (st0 C 0) ⟨xs, xd, xl, xb⟩ C.q) (C.q + 1)) := fun u hu hf => by
    have h := o_inject hu ⟨xs, xd, xl, xb⟩ HX.out
    have hq := inj_full (s := st0 C 0) hf
    rw [hq.1, hq.2] at h
    exact h
  have HYm : Hid (∀ (u : World) (i : Nat), i < C.q → One V u q C (many (st0 C 0) ⟨xs, xd, xl, xb⟩ i) i → fineX C ⟨xs, xd, xl, xb⟩ → Calls Tryz.prog 13 #[.pointer (some ⟨q, 0, none⟩), .agg #[.int .i64 xs, .int .i64 xd, .int .i64 xl, .int .u32 xb]] u fun e w' => e = .returned (.int .u16 0) ∧ One V w' q C (many (st0 C 0) ⟨xs, xd, xl, xb⟩ (i + 1)) (i + 1)) := fun u i hi hu hf => by
    have h := o_inject hu ⟨xs, xd, xl, xb⟩ HX.out
    have hq := inj_many (s := st0 C 0) hf hi
    rw [hq.1, hq.2] at h
    exact h
  obtain ⟨y0, y1, y2, y3⟩ := HPx.out w4 HB4.out
  obtain ⟨x0, x1, x2, x3, x4, x5, x6, x7, x8, x9, x10⟩ := HV.out.1.below HB4.out
  simp only at x0 x1 x2 x3 x4 x5 x6 x7 x8 x9 x10
  go_upto_region 6 with fail
  go_cut [14] (fun s wx => ∃ b : Bool, s = .bool b ∧ (b = true ↔ fineX C ⟨xs, xd, xl, xb⟩) ∧ wx = w4)
  case first =>
    by_cases c1 : xs = (k : Int)
    · have b1 : (xs == (k : Int)) = true := by simp [c1]
      have C1 : Hid (xs = (k : Int)) := c1
      clear c1
      by_cases c2 : xd = (k : Int)
      · have b2 : (xd != (k : Int)) = false := by simp [c2]
        have HNo : Hid (¬ fineX C ⟨xs, xd, xl, xb⟩) := fun h => by have h7 := h.1.2.2.2; simp only at h7; rw [HCf.out.1] at h7; exact h7 c2
        clear c2
        go_wp2_with fail
        go_meet
        exact ⟨_, rfl, ⟨(fun e => by cases e), fun h => absurd h HNo.out⟩, rfl⟩
      · have b2 : (xd != (k : Int)) = true := by simp [c2]
        by_cases c3 : 0 ≤ xd
        · by_cases c4 : xd < (N : Int)
          · by_cases c5 : 0 ≤ xl
            · by_cases c6 : xl < (C.L : Int)
              · have HYe : Hid (fineX C ⟨xs, xd, xl, xb⟩) := ⟨⟨by show xs = (C.v : Int); rw [HCf.out.1]; exact C1.out, c3, by show xd < (C.N : Int); rw [HCf.out.2.1]; exact c4, by show xd ≠ (C.v : Int); rw [HCf.out.1]; exact c2⟩, c5, c6⟩
                go_wp2_with fail
                go_meet
                exact ⟨_, rfl, ⟨fun _ => HYe.out, fun _ => rfl⟩, rfl⟩
              · have HNo : Hid (¬ fineX C ⟨xs, xd, xl, xb⟩) := fun h => c6 h.2.2
                go_wp2_with fail
                go_meet
                exact ⟨_, rfl, ⟨(fun e => by cases e), fun h => absurd h HNo.out⟩, rfl⟩
            · have HNo : Hid (¬ fineX C ⟨xs, xd, xl, xb⟩) := fun h => c5 h.2.1
              go_wp2_with fail
              go_meet
              exact ⟨_, rfl, ⟨(fun e => by cases e), fun h => absurd h HNo.out⟩, rfl⟩
          · have HNo : Hid (¬ fineX C ⟨xs, xd, xl, xb⟩) := fun h => by have h7 := h.1; simp only at h7; rw [HCf.out.1, HCf.out.2.1] at h7; omega
            go_wp2_with fail
            go_meet
            exact ⟨_, rfl, ⟨(fun e => by cases e), fun h => absurd h HNo.out⟩, rfl⟩
        · have HNo : Hid (¬ fineX C ⟨xs, xd, xl, xb⟩) := fun h => c3 h.1.2.1
          go_wp2_with fail
          go_meet
          exact ⟨_, rfl, ⟨(fun e => by cases e), fun h => absurd h HNo.out⟩, rfl⟩
    · have b1 : (xs == (k : Int)) = false := by simp [c1]
      have HNo : Hid (¬ fineX C ⟨xs, xd, xl, xb⟩) := fun h => by have h7 := h.1.1; simp only at h7; rw [HCf.out.1] at h7; exact c1 h7
      go_wp2_with fail
      go_meet
      exact ⟨_, rfl, ⟨(fun e => by cases e), fun h => absurd h HNo.out⟩, rfl⟩
  case rest =>
    obtain ⟨b, rfl, hs, rfl⟩ := hcut
    clear x0 x1 x2 x3 x4 x5 x6 x7 x8 x9 x10
    cases b
    case true =>
      have hf := hs.1 rfl
      clear hs
      have HF : Hid (fineX C ⟨xs, xd, xl, xb⟩) := hf
      clear hf
      have HM0 : Hid (One V wc q C (many (st0 C 0) ⟨xs, xd, xl, xb⟩ 0) 0) := HO4.out
      have HQ : Hid (1 ≤ C.q ∧ C.q ≤ 8) := ⟨HCf.out.2.2.2.2.1, HCf.out.2.2.2.2.2⟩
      have HPl : Hid (∀ u : World, Below V.heap.size V u → u.cell? ⟨w1.heap.size, 4, none⟩ = some (.int .i64 (C.q : Nat))) := fun u hu => (HV.out.1.below hu).c4
      go_wp2_with fail
      clear y0 y1 y2 y3
      refine Calls.mono (HYm.out _ 0 (by have := HQ.out; omega) HM0.out HF.out) ?_
      rintro e w5 ⟨rfl, h5⟩
      have HO5 : Hid (One V w5 q C (many (st0 C 0) ⟨xs, xd, xl, xb⟩ 1) 1) := h5
      clear h5
      go_wp2_with fail
      go_loopw [15] (fun i wr => ∃ j : Nat, 1 ≤ j ∧ j ≤ C.q ∧ i = .int .i64 j ∧ One V wr q C (many (st0 C 0) ⟨xs, xd, xl, xb⟩ j) j) (fun i _ => C.q - (intOf i).toNat)
      case atStart => exact ⟨1, Nat.le_refl _, HQ.out.1, rfl, HO5.out⟩
      case round =>
        obtain ⟨j, hj1, hjq, rfl, hOj⟩ := hrel
        have hq8 : C.q ≤ 8 := HQ.out.2
        have HOj : Hid (One V wr q C (many (st0 C 0) ⟨xs, xd, xl, xb⟩ j) j) := hOj
        obtain ⟨y0, y1, y2, y3⟩ := HPx.out wr hOj.base
        have x4 := HPl.out wr hOj.base
        clear hOj
        by_cases hj : j < C.q
        · go_wp2_with fail
          clear y0 y1 y2 y3 x4
          refine Calls.mono (HYm.out _ j hj HOj.out HF.out) ?_
          rintro e w6 ⟨rfl, h6⟩
          have HO6 : Hid (One V w6 q C (many (st0 C 0) ⟨xs, xd, xl, xb⟩ (j + 1)) (j + 1)) := h6
          clear h6
          go_wp2_with fail
          go_roundw
          case rel => exact ⟨j + 1, by omega, by omega, by go_num, HO6.out⟩
          case measure => simp [intOf]; omega
        · have hjj : j = C.q := by omega
          have HOq : Hid (∀ u, Below wr.heap.size wr u → One V u q C (many (st0 C 0) ⟨xs, xd, xl, xb⟩ C.q) C.q) := fun u hu => by rw [← hjj]; exact HOj.out.below hu
          clear hjj
          have HLn : Hid ((K.Hst.lane (many (st0 C 0) ⟨xs, xd, xl, xb⟩ C.q).hL xl).length = C.q) := by show (K.Hst.lane (List.replicate C.q ⟨xs, xd, xl, xb⟩) xl).length = _; rw [show xl = (⟨xs, xd, xl, xb⟩ : Pk).l from rfl, lane_many, List.length_replicate]
          go_wp2_with fail
          go_region_with (first
            | (go_at_call 13; refine Calls.mono (HYs.out _ (HOq.out _ (Cr.drewN_below wr 1)) HF.out) ?_; rintro e w7 ⟨rfl, h7⟩; have HO7 : Hid (One V w7 q C (many (st0 C 0) ⟨xs, xd, xl, xb⟩ C.q) (C.q + 1)) := h7; obtain ⟨z0, z1, z2, z3⟩ := HPx.out w7 h7.base; have z4 := HPl.out w7 h7.base; clear h7)
            | (go_at_call 14; refine (o_host HO7.out).mono ?_; rintro e w8 ⟨⟨ph, FH, rfl, hla⟩, rfl⟩; have HLa : Hid (K.LAt w8 FH ph C.L C.q (many (st0 C 0) ⟨xs, xd, xl, xb⟩ C.q).hL (many (st0 C 0) ⟨xs, xd, xl, xb⟩ C.q).hG) := hla; clear hla)
            | (go_at_call 15; refine (K.hWaits_any HLa.out xl (c := C.q) HLn.out).mono ?_; rintro e w9 ⟨rfl, rfl⟩))
          all_goals (have HE : Hid (Below w.heap.size w w9) := later HBV.out HO7.out.base; clear z0 z1 z2 z3 z4 y0 y1 y2 y3 x4; go_wp2_with fail; go_ret; exact ⟨rfl, HE.out⟩)
    case false =>
      have hf : ¬ fineX C ⟨xs, xd, xl, xb⟩ := fun h => by have := hs.2 h; cases this
      clear hs
      have HNo : Hid (¬ fineX C ⟨xs, xd, xl, xb⟩) := hf
      clear hf
      go_wp2_with fail
      clear y0 y1 y2 y3
      refine Calls.mono (HIn.out HNo.out _ 0 HO4.out) ?_
      rintro e w5 ⟨rfl, h5⟩
      have HO5 : Hid (One V w5 q C (st0 C 0) 1) := h5
      obtain ⟨y0, y1, y2, y3⟩ := HPx.out w5 h5.base
      clear h5
      go_wp2_with fail
      refine Calls.mono (HIn.out HNo.out w5 1 HO5.out) ?_
      rintro e w6 ⟨rfl, h6⟩
      have HE : Hid (Below w.heap.size w w6) := later HBV.out h6.base
      clear h6 y0 y1 y2 y3
      go_wp2_with fail
      go_ret
      exact ⟨rfl, HE.out⟩
end Nd
end Go.Proofs.YtniicgbkeifnjaaGreatDoor
