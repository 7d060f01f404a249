/-
  The law IslipRounds of package shunterlaw10: more rounds match no fewer, and keep what fewer matched. Conditions: that the table of math/bits holds what its initialiser lays.
-/
import Derived.Test.YtlojadodabddpaaDoorIslArg
namespace Go.Proofs.YtlojadodabddpaaDoor
open Go.ChangeShapes Go.WideShapes Go.ChangeAt Go.RowKit
set_option linter.unusedVariables false

theorem getD_lt {l : List Nat} {k n : Nat} (h : ∀ x ∈ l, x < n) (hn : 0 < n) : l.getD k 0 < n := by
  rw [List.getD_eq_getElem?_getD]
  by_cases hk : k < l.length
  · rw [List.getElem?_eq_getElem hk]; exact h _ (List.getElem_mem hk)
  · rw [List.getElem?_eq_none (by omega)]; exact hn
set_option maxRecDepth 100000 in
set_option maxHeartbeats 2000000 in
theorem islipRounds_any (w : World) (hT : Tab w) (k0 : Int) (wk : (Lit.int .u8 k0).wf = true) (x : Option Addr) (len cap : Nat) (rows : List Nat) (hr : Nums .u16 w x len rows) (hl : ∀ x ∈ rows, x < 65536) (hc : len ≤ cap) (hcm : cap ≤ 140737488351232) (r0 : Int) (wr0 : (Lit.int .u8 r0).wf = true) (s0 : Int) (ws : (Lit.int .u8 s0).wf = true) :
    Calls Tryd.prog 10 #[.int .u8 k0, .slice x len cap, .int .u8 r0, .int .u8 s0] w fun e w' => e = .returned (.bool true) ∧ Below w.heap.size w w' := by
  obtain ⟨k, rfl, hk⟩ := nat_u8 wk
  obtain ⟨r, rfl, hr0⟩ := nat_u8 wr0
  obtain ⟨s, rfl, hs0⟩ := nat_u8 ws
  obtain ⟨n, hN, hN1, hN16⟩ := size_of k
  obtain ⟨few, hF, hF1, hF16⟩ := size_of r
  obtain ⟨more, hM1, hM2, hM3⟩ : ∃ more : Nat, (if (16 : Int) < (few : Int) + (s : Int) % 4 then (16 : Int) else (few : Int) + (s : Int) % 4) = (more : Nat) ∧ few ≤ more ∧ more ≤ 16 := ⟨min (few + s % 4) 16, by split <;> omega, by omega, by omega⟩
  have HT : Hid (Tab w) := hT
  have HR : Hid (Nums .u16 w x len rows) := hr
  have HL : Hid (∀ x ∈ rows, x < 65536) := hl
  have h0 := hT.lt
  clear hT hr hl wk wr0 ws
  go_enter Tryd.func10, Tryd.ntmps10
  go_wp2_with fail
  refine (new_good n ⟨hN1, hN16⟩ w).mono ?_
  rintro e w1 ⟨p, g, a, rfl, hA, hB, h1, h2, h3⟩
  go_wp2_with fail
  refine (new_good n ⟨hN1, hN16⟩ w1).mono ?_
  rintro e w2 ⟨q, g', a', rfl, hA', hB', h1', h2', h3'⟩
  have lA := hA.lg
  have lB := hA.la
  have lC := hA.lp
  have lA' := hA'.lg
  have lB' := hA'.la
  have lC' := hA'.lp
  have hs1 := hB.size
  have hs2 := hB'.size
  have b12 := later hB hB'
  go_wp2_with fail
  refine (known_any _ (HT.out.below b12 h0)).mono ?_
  rintro e w3 ⟨rfl, hb3⟩
  have HB3 : Hid (Below w.heap.size w w3) := later b12 hb3
  have HA3 : Hid (Arb w3 p g a n (fun _ => 0) (fun _ => 0) ∧ Arb w3 q g' a' n (fun _ => 0) (fun _ => 0)) := ⟨(hA.below hB').below hb3, hA'.below hb3⟩
  have hs3 := hb3.size
  clear hA hA' hB hB' b12 hb3
  go_wp2_with fail
  refine (square_any x len cap n rows hN16 _ (HR.out.below HB3.out)).mono ?_
  rintro e w4 ⟨rfl, hC4, hb4⟩
  have hs4 := hb4.size
  go_wp2_with fail
  refine (run_cols (HA3.out.1.below hb4) hC4 (fun i _ => getD_lt HL.out (by omega)) (HT.out.below (later HB3.out hb4) h0) few hF1 hF16).mono ?_
  rintro e w5 ⟨b, rfl, hb, hI, hAx, hS⟩
  have hs5 := hS.size
  have HB5 : Hid (Below w.heap.size w w5) := (later HB3.out hb4).trans (hS.below (by omega) (fun k e => by omega))
  have HA5 : Hid (Arb w5 p g a n (Isl.runG (reqs n fun i => rows.getD i 0) (fun _ => 0) (fun _ => 0) n) (Isl.runA (reqs n fun i => rows.getD i 0) (fun _ => 0) (fun _ => 0) n) ∧ Arb w5 q g' a' n (fun _ => 0) (fun _ => 0)) := ⟨hAx, (HA3.out.2.below hb4).sans hS (by omega) (by omega) (by omega)⟩
  have HI : Hid (Ints w5 b n (Isl.run (reqs n fun i => rows.getD i 0) (fun _ => 0) (fun _ => 0) n few)) := hI
  have lb := hI.lt hN1
  clear hC4 hb4 hI hAx hS HA3
  go_wp2_with fail
  refine (square_any x len cap n rows hN16 _ (HR.out.below HB5.out)).mono ?_
  rintro e w6 ⟨rfl, hC6, hb6⟩
  have hs6 := hb6.size
  go_wp2_with fail
  refine (run_cols (HA5.out.2.below hb6) hC6 (fun i _ => getD_lt HL.out (by omega)) (HT.out.below (later HB5.out hb6) h0) more (by omega) hM3).mono ?_
  rintro e w7 ⟨c, rfl, hc, hJ, hAy, hS⟩
  have hs7 := hS.size
  have HB7 : Hid (Below w.heap.size w w7) := (later HB5.out hb6).trans (hS.below (by omega) (fun k e => by omega))
  have HA7 : Hid (Arb w7 p g a n (Isl.runG (reqs n fun i => rows.getD i 0) (fun _ => 0) (fun _ => 0) n) (Isl.runA (reqs n fun i => rows.getD i 0) (fun _ => 0) (fun _ => 0) n) ∧ Arb w7 q g' a' n (Isl.runG (reqs n fun i => rows.getD i 0) (fun _ => 0) (fun _ => 0) n) (Isl.runA (reqs n fun i => rows.getD i 0) (fun _ => 0) (fun _ => 0) n)) := ⟨(HA5.out.1.below hb6).sans hS (by omega) (by omega) (by omega), hAy⟩
  have HI7 : Hid (Ints w7 b n (Isl.run (reqs n fun i => rows.getD i 0) (fun _ => 0) (fun _ => 0) n few) ∧ Ints w7 c n (Isl.run (reqs n fun i => rows.getD i 0) (fun _ => 0) (fun _ => 0) n more)) := ⟨(HI.out.below hb6).sans hS (by omega), hJ⟩
  clear hC6 hb6 hJ hAy hS HA5 HI
  go_wp2_with fail
  go_loopw [16] (fun v wr => ∃ j : Nat, j ≤ n ∧ v = .int .i64 j ∧ Below w7.heap.size w7 wr) (fun v _ => n - (intOf v).toNat)
  case atStart => exact ⟨0, Nat.zero_le _, rfl, Below.refl _ _⟩
  case round =>
    obtain ⟨j, hj, rfl, hB⟩ := hrel
    have HW : Hid (Below w7.heap.size w7 wr) := hB
    by_cases hjn : j < n
    · have x1 := ((HI7.out.1.below hB) j hjn).1
      have x2 := ((HI7.out.2.below hB) j hjn).1
      have hkp := Isl.run_keeps (reqs n fun i => rows.getD i 0) (fun _ => 0) (fun _ => 0) n (j := few) (k := more) (i := j) hF1 hM2
      obtain ⟨X, hX⟩ : ∃ X, Isl.run (reqs n fun i => rows.getD i 0) (fun _ => 0) (fun _ => 0) n few j = X := ⟨_, rfl⟩
      obtain ⟨Y, hY⟩ : ∃ Y, Isl.run (reqs n fun i => rows.getD i 0) (fun _ => 0) (fun _ => 0) n more j = Y := ⟨_, rfl⟩
      rw [hX] at x1 hkp
      rw [hY] at x2 hkp
      clear hX hY hB
      by_cases hX0 : 0 ≤ X
      · have e := hkp hX0
        subst e
        clear hkp
        have d : decide (0 ≤ Y) = true := decide_eq_true hX0
        go_wp2_with fail
        go_quiet (fail)
        go_wp2_with fail
        go_roundw
        case rel => exact ⟨j + 1, by omega, by go_num, later HW.out (drewN_below _ _)⟩
        case measure => simp [intOf]; omega
      · clear hkp
        have d : decide (0 ≤ X) = false := decide_eq_false hX0
        go_wp2_with fail
        go_quiet (fail)
        go_wp2_with fail
        go_roundw
        case rel => exact ⟨j + 1, by omega, by go_num, later HW.out (drewN_below _ _)⟩
        case measure => simp [intOf]; omega
    · obtain rfl : j = n := by omega
      clear hB
      have HA8 := HA7.out.1.below HW.out
      have HA9 := HA7.out.2.below HW.out
      go_wp2_with fail
      refine (grants_any HA8).mono ?_
      rintro e u1 ⟨b1, d1, rfl, _, i1, k1⟩
      go_wp2_with fail
      refine (grants_any (HA9.below k1)).mono ?_
      rintro e u2 ⟨b2, d2, rfl, _, i2, k2⟩
      go_wp2_with fail
      refine (same_any _ _ j d1 d2 _ _ (by omega) (i1.below k2).led i2.led).mono ?_
      rintro e u3 ⟨rfl, k3⟩
      have k13 := later (later k1 k2) k3
      go_wp2_with fail
      refine (accepts_any (HA8.below k13)).mono ?_
      rintro e u4 ⟨b4, d4, rfl, _, i4, k4⟩
      go_wp2_with fail
      refine (accepts_any ((HA9.below k13).below k4)).mono ?_
      rintro e u5 ⟨b5, d5, rfl, _, i5, k5⟩
      go_wp2_with fail
      refine (same_any _ _ j d4 d5 _ _ (by omega) (i4.below k5).led i5.led).mono ?_
      rintro e u6 ⟨rfl, k6⟩
      go_wp2_with fail
      go_ret
      exact ⟨rfl, later (later HB7.out HW.out) (later (later (later k13 k4) k5) k6)⟩
end Go.Proofs.YtlojadodabddpaaDoor
