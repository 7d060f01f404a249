/-
  Contracts and plain facts that the walks lean on (NodeMask, WrrB, WrrC, CreditS). Conditions: none but those that each states.
-/
import Derived.Test.YtniicgbkeifnjaaGreatDoorQ14
namespace Go.Proofs.YtniicgbkeifnjaaGreatDoor.Nd
open Go.ChangeShapes Go.WideShapes Go.ChangeAt Go.RowKit
set_option linter.unusedVariables false
set_option maxRecDepth 100000
theorem maskOf_lt (p : Nat → Bool) : ∀ n, maskOf p n < 2 ^ n
  | 0 => by simp [maskOf]
  | n + 1 => by
    have := maskOf_lt p n
    rw [maskOf, Nat.pow_succ]
    split <;> omega
theorem maskOf_hit {p : Nat → Bool} {k : Nat} (h : p k = true) : maskOf p (k + 1) = maskOf p k + 2 ^ k := by rw [maskOf, if_pos h]
theorem maskOf_miss {p : Nat → Bool} {k : Nat} (h : p k = false) : maskOf p (k + 1) = maskOf p k := by rw [maskOf, if_neg (by simp [h]), Nat.add_zero]
theorem maskOf_bit (p : Nat → Bool) : ∀ n i, (maskOf p n).testBit i = (decide (i < n) && p i)
  | 0, i => by simp [maskOf]
  | n + 1, i => by
    have ih := maskOf_bit p n i
    have hl := maskOf_lt p n
    cases h : p n with
    | true =>
      rw [maskOf_hit h, ← M.Mask.or_pow hl, Nat.testBit_or, ih, Nat.testBit_two_pow]
      by_cases e : n = i
      · subst e; simp [h]
      · have e2 : decide (i < n + 1) = decide (i < n) := by rw [decide_eq_decide]; omega
        simp [e, e2]
    | false =>
      rw [maskOf_miss h, ih]
      by_cases e : n = i
      · subst e; simp [h]
      · have e2 : decide (i < n + 1) = decide (i < n) := by rw [decide_eq_decide]; omega
        rw [e2]
theorem maskOf_16 (p : Nat → Bool) {n : Nat} (h : n ≤ 16) : maskOf p n < 65536 := Nat.lt_of_lt_of_le (maskOf_lt p n) (Nat.pow_le_pow_right (by omega) h)
theorem or_mask (p : Nat → Bool) {k : Nat} (hk : k < 16) : bits .or .u16 (maskOf p k : Nat) (IntKind.u16.wrap (2 ^ k)) = ((maskOf p k + 2 ^ k : Nat) : Int) := by
  have hlt := maskOf_lt p k
  rw [M.shl_u16 hk, ← M.Mask.or_pow hlt]
  exact u16_or_nat _ _ (Nat.lt_of_lt_of_le hlt (Nat.pow_le_pow_right (j := 16) (by omega) (by omega))) (Nat.pow_lt_pow_right (n := 16) (by omega) (by omega))
theorem pickP_nat {p : Nat → Bool} {f n : Nat} (h : ¬ M.Isl.pickP p f n < 0) : ∃ k : Nat, M.Isl.pickP p f n = (k : Nat) ∧ k < n ∧ p k = true := by
  rcases M.Isl.pickP_cases p f n with ⟨e, _⟩ | ⟨i, hi, e, hp⟩
  · rw [e] at h; exact absurd (by omega) h
  · exact ⟨i, e, hi, hp⟩
theorem wLane_cases (n : Nat) (lf : Nat → Int) (f m : Nat) : wLane n lf f m = -1 ∨ ∃ k : Nat, wLane n lf f m = (k : Nat) ∧ k < n ∧ m.testBit k = true := by
  unfold wLane
  by_cases h1 : M.Isl.pickP (fun i => m.testBit i) f n < 0
  · rw [if_pos h1]; exact .inl rfl
  · rw [if_neg h1]
    by_cases h2 : M.Isl.pickP (fun i => m.testBit i && decide (0 < lf i)) f n < 0
    · rw [if_pos h2]
      obtain ⟨k, e, hk, hp⟩ := pickP_nat h1
      exact .inr ⟨k, e, hk, hp⟩
    · rw [if_neg h2]
      obtain ⟨k, e, hk, hp⟩ := pickP_nat h2
      simp only [Bool.and_eq_true] at hp
      exact .inr ⟨k, e, hk, hp.1⟩
theorem wLane_none {n : Nat} {lf : Nat → Int} {f m : Nat} (h : wLane n lf f m < 0) : ∀ i, i < n → m.testBit i = false := by
  unfold wLane at h
  by_cases h1 : M.Isl.pickP (fun i => m.testBit i) f n < 0
  · rcases M.Isl.pickP_cases (fun i => m.testBit i) f n with ⟨_, e⟩ | ⟨i, _, e, _⟩
    · exact e
    · omega
  · rw [if_neg h1] at h
    by_cases h2 : M.Isl.pickP (fun i => m.testBit i && decide (0 < lf i)) f n < 0
    · rw [if_pos h2] at h; exact absurd h h1
    · rw [if_neg h2] at h; exact absurd h h2
end Go.Proofs.YtniicgbkeifnjaaGreatDoor.Nd
namespace Go.Proofs.YtniicgbkeifnjaaGreatDoor
open Go.ChangeShapes Go.WideShapes Go.ChangeAt Go.RowKit
set_option linter.unusedVariables false
set_option maxRecDepth 100000
section
variable {w w' : World} {p x f n fr : Nat} {wt lf : Nat → Int}
set_option maxHeartbeats 1000000 in
theorem wsome_any (h : Whl w p x f n wt lf fr) :
    Calls Tryz.prog 215 #[.pointer (some ⟨p, 0, none⟩)] w fun e w' => e = .returned (.int .u16 (Nd.maskOf (fun i => decide (0 < lf i)) n : Nat)) ∧ w' = w := by
  have h1 := h.c1
  have n3 := h.n3
  have HR : Hid (NRow w f n lf) := h.ls
  clear h
  go_enter Tryz.func215, Tryz.ntmps215
  go_wp2_with fail
  go_loopw [3, 4, 5, 11] (fun m _ _ i wr => ∃ k : Nat, k ≤ n ∧ i = .int .i64 k ∧ m = .int .u16 (Nd.maskOf (fun i => decide (0 < lf i)) k : Nat) ∧ wr = w) (fun _ _ _ i _ => n - (intOf i).toNat)
  case atStart => exact ⟨0, Nat.zero_le _, rfl, rfl, rfl⟩
  case round =>
    obtain ⟨k, hk, rfl, rfl, rfl⟩ := hrel
    by_cases hkn : k < n
    · have hc := HR.out.cell hkn
      obtain ⟨z, hz⟩ : ∃ z, lf k = z := ⟨_, rfl⟩
      have HZ : Hid (lf k = z) := hz
      rw [hz] at hc
      clear hz
      have HO : Hid _ := Nd.or_mask (fun i => decide (0 < lf i)) (k := k) (by omega)
      obtain ⟨y, hy⟩ : ∃ y, Nd.maskOf (fun i => decide (0 < lf i)) k = y := ⟨_, rfl⟩
      have HY : Hid (Nd.maskOf (fun i => decide (0 < lf i)) k = y) := hy
      rw [hy] at HO ⊢
      clear hy
      by_cases hz0 : 0 < z
      · have HM : Hid (Nd.maskOf (fun i => decide (0 < lf i)) (k + 1) = y + 2 ^ k) := by
          show _ = _
          rw [Nd.maskOf_hit (by rw [HZ.out]; exact decide_eq_true hz0), HY.out]
        go_wp2_with fail
        go_roundw
        case rel =>
          have R : bits .or .u16 (y : Int) (IntKind.u16.wrap (2 ^ k)) = ((Nd.maskOf (fun i => decide (0 < lf i)) (k + 1) : Nat) : Int) := by rw [HO.out, HM.out]
          rw [R]
          exact ⟨k + 1, by omega, by go_num, rfl, trivial⟩
        case measure => simp [intOf]; omega
      · have HM : Hid (Nd.maskOf (fun i => decide (0 < lf i)) (k + 1) = y) := by
          show _ = _
          rw [Nd.maskOf_miss (by rw [HZ.out]; exact decide_eq_false hz0), HY.out]
        go_wp2_with fail
        go_roundw
        case rel => exact ⟨k + 1, by omega, by go_num, by rw [HM.out], trivial⟩
        case measure => simp [intOf]; omega
    · obtain rfl : k = n := by omega
      go_wp2_with fail
      go_ret
      exact ⟨rfl, rfl⟩
set_option maxHeartbeats 1000000 in
theorem wfirst_any {b : Nat} (h : Whl w p x f n wt lf fr) (hb : w.cell? ⟨b, 0, none⟩ = some (.pointer (some ⟨p, 0, none⟩))) (m : Nat) (hm : m < 65536) {z : Int} (hz : M.pickV m fr n = z) :
    Calls Tryz.prog 214 #[.int .u16 (m : Nat), .pointer (some ⟨b, 0, none⟩)] w fun e w' => e = .returned (.int .i64 z) ∧ Below w.heap.size w w' := by
  obtain ⟨xc, h0⟩ := h.c0
  have h2 := h.c2
  have HZ : Hid (M.pickV m (fr : Nat) (n : Nat) = z) := hz
  have hne := Since.any w
  have cb := fun u : Since w => u.cell hb
  have c0 := fun u : Since w => u.cell h0
  have c2 := fun u : Since w => u.cell h2
  clear h hb h0 h2 hz
  go_enter Tryz.func214, Tryz.ntmps214
  go_wp2_with fail
  refine region_since (u := w) (by kernel_rfl) (by kernel_rfl) (Below.refl _ _) ?_
  repeat (go_big_quiet_step (first | (go_at_call 212; exact Since.calls _ (M.pick_any m hm _ _ _))))
  refine wpQuiet_nil ?_
  intro _ hw'
  obtain ⟨nq, hw''⟩ := hw'
  subst hw''
  rw [HZ.out]
  have HB : Hid (Below w.heap.size w nq.w) := nq.h
  clear cb c0 c2 hne
  go_wp2_with fail
  go_ret
  exact ⟨rfl, HB.out⟩
end
end Go.Proofs.YtniicgbkeifnjaaGreatDoor
namespace Go.Proofs.YtniicgbkeifnjaaGreatDoor
open Go.ChangeShapes Go.WideShapes Go.ChangeAt Go.RowKit
set_option linter.unusedVariables false
set_option maxRecDepth 100000
theorem Whl.picked {w u : World} {p x f n fr : Nat} {wt lf : Nat → Int} (h : Whl u p x f n wt lf fr) (hs : Sans (fun j => j = p ∨ j = f) w u) (k : Nat) (hk : k < n) (hl : 1 ≤ lf k) :
    Whl ((u.setCell ⟨f, k, none⟩ (.int .i64 (lf k - 1))).setCell ⟨p, 2, none⟩ (.int .i64 ((k + 1) % n : Nat))) p x f n wt (Nd.sub1 lf (k : Nat)) ((k + 1) % n) ∧ Sans (fun j => j = p ∨ j = f) w ((u.setCell ⟨f, k, none⟩ (.int .i64 (lf k - 1))).setCell ⟨p, 2, none⟩ (.int .i64 ((k + 1) % n : Nat))) := by
  have hb := h.lb k hk
  have h1 := (h.left k (lf k - 1) (by omega)).from_ ((k + 1) % n) (Nat.mod_lt _ (by omega))
  have e : Nd.up1 lf k (lf k - 1) = Nd.sub1 lf (k : Nat) := by
    funext i
    unfold Nd.up1 Nd.sub1
    by_cases e : i = k
    · subst e; rw [if_pos rfl, if_pos rfl]
    · rw [if_neg e, if_neg (by omega)]
  rw [e] at h1
  exact ⟨h1, (hs.then (Sans.of_set _ ⟨f, k, none⟩ _ (.inr rfl))).then (Sans.of_set _ ⟨p, 2, none⟩ _ (.inl rfl))⟩
section
variable {w w' : World} {p x f n fr : Nat} {wt lf : Nat → Int}
set_option maxHeartbeats 4000000 in
set_option maxRecDepth 100000 in
theorem wpick_any (h : Whl w p x f n wt lf fr) (m : Nat) (hm : m < 65536) :
    Calls Tryz.prog 173 #[.pointer (some ⟨p, 0, none⟩), .int .u16 (m : Nat)] w fun e w' => e = .returned (.int .i64 (Nd.wLane n lf fr m)) ∧ Whl w' p x f n wt (Nd.wLeft n wt lf fr m) (Nd.wFrom n lf fr m) ∧ Sans (fun j => j = p ∨ j = f) w w' := by
  have n1 := h.n1
  have n3 := h.n3
  have lp := h.lp
  have hp1 : ∀ m : Nat, M.pickV m (fr : Nat) (n : Nat) = M.Isl.pickP (fun i => m.testBit i) fr n := fun m => by
    rw [M.pickV_in (by omega) h.frn, M.Isl.pick_eq]
  obtain ⟨s, hs⟩ : ∃ s, Nd.maskOf (fun i => decide (0 < lf i)) n = s := ⟨_, rfl⟩
  have hs16 : s < 65536 := by rw [← hs]; exact Nd.maskOf_16 _ (by omega)
  have hp2 : M.pickV (m &&& s) (fr : Nat) (n : Nat) = M.Isl.pickP (fun i => m.testBit i && decide (0 < lf i)) fr n := by
    rw [hp1]
    refine M.Isl.pickP_congr (fun i hi => ?_)
    rw [Nat.testBit_and, ← hs, Nd.maskOf_bit, decide_eq_true hi, Bool.true_and]
  obtain ⟨a, ha⟩ : ∃ a, M.Isl.pickP (fun i => m.testBit i) fr n = a := ⟨_, rfl⟩
  obtain ⟨b, hb⟩ : ∃ b, M.Isl.pickP (fun i => m.testBit i && decide (0 < lf i)) fr n = b := ⟨_, rfl⟩
  have hA : Hid (M.pickV m (fr : Nat) (n : Nat) = a) := (hp1 m).trans ha
  have hB : Hid (M.pickV (m &&& s) (fr : Nat) (n : Nat) = b) := hp2.trans hb
  have hand : Hid (bits .and .u16 (m : Int) (s : Int) = ((m &&& s : Nat) : Int)) := u16_and_nat m s hm (by omega)
  have hm2 : m &&& s < 65536 := Nat.lt_of_le_of_lt Nat.and_le_left hm
  have HS : Hid (Nd.maskOf (fun i => decide (0 < lf i)) n = s) := hs
  have HH : Hid (Whl w p x f n wt lf fr) := h
  have hwt := h.wb
  obtain ⟨W, hW⟩ : ∃ W, W = w.alloc (.cells #[.pointer (some ⟨p, 0, none⟩)] 110) := ⟨_, rfl⟩
  have HB : Hid (Below w.heap.size w W) := by rw [hW]; exact fresh _ _
  have hcb : W.cell? ⟨w.heap.size, 0, none⟩ = some (.pointer (some ⟨p, 0, none⟩)) := by rw [hW]; simp
  have H1 : Hid (Whl W p x f n wt lf fr) := h.below HB.out
  have HC : Hid (W.cell? ⟨w.heap.size, 0, none⟩ = some (.pointer (some ⟨p, 0, none⟩))) := hcb
  by_cases ha0 : a < 0
  · have e1 : Hid (Nd.wLane n lf fr m = a) := by
      show _ = _
      unfold Nd.wLane
      rw [ha, if_pos ha0]
      rcases M.Isl.pickP_cases (fun i => m.testBit i) fr n with ⟨e, _⟩ | ⟨i, _, e, _⟩
      · rw [← ha, e]
      · rw [ha] at e; omega
    have e2 : Hid (Nd.wLeft n wt lf fr m = lf) := by
      show _ = _
      unfold Nd.wLeft
      rw [ha, if_pos ha0]
    have e3 : Hid (Nd.wFrom n lf fr m = fr) := by
      show _ = _
      unfold Nd.wFrom
      rw [e1.out, if_pos ha0]
    have ha1 : Hid (a = -1) := by
      show _ = _
      rcases M.Isl.pickP_cases (fun i => m.testBit i) fr n with ⟨e, _⟩ | ⟨i, _, e, _⟩
      · rw [← ha, e]
      · rw [ha] at e; omega
    rw [e1.out, e2.out, e3.out]
    clear ha hb hs hp1 hp2 h hcb
    go_enter Tryz.func173, Tryz.ntmps173
    go_wp2_with fail
    rw [← hW]
    clear hW
    refine (wfirst_any H1.out HC.out m hm hA.out).mono ?_
    rintro e w1 ⟨rfl, hB1⟩
    have HE : Hid (Whl w1 p x f n wt lf fr ∧ Sans (fun j => j = p ∨ j = f) w w1) := ⟨H1.out.below hB1, Sans.of_below (later HB.out hB1)⟩
    clear hB1
    go_wp2_with fail
    go_ret
    rw [ha1.out]
    exact ⟨rfl, HE.out⟩
  · obtain ⟨k1, hk1, hk1n, _⟩ := Nd.pickP_nat (p := fun i => m.testBit i) (f := fr) (n := n) (by rw [ha]; exact ha0)
    rw [ha] at hk1
    by_cases hb0 : b < 0
    · have hwk := h.wb k1 hk1n
      have e1 : Hid (Nd.wLane n lf fr m = (k1 : Nat)) := by
        show _ = _
        unfold Nd.wLane
        rw [ha, hb, if_neg ha0, if_pos hb0, hk1]
      have e2 : Hid (Nd.wLeft n wt lf fr m = Nd.sub1 wt (k1 : Nat)) := by
        show _ = _
        unfold Nd.wLeft
        rw [e1.out, ha, hb, if_neg ha0, if_pos hb0]
      have e3 : Hid (Nd.wFrom n lf fr m = (k1 + 1) % n) := by
        show _ = _
        unfold Nd.wFrom
        rw [e1.out, if_neg (by omega)]
        simp
      rw [e1.out, e2.out, e3.out]
      subst hk1
      have HPK : Hid (∀ u : World, Whl u p x f n wt wt fr → Sans (fun j => j = p ∨ j = f) w u → Whl ((u.setCell ⟨f, k1, none⟩ (.int .i64 (wt k1 - 1))).setCell ⟨p, 2, none⟩ (.int .i64 ((k1 + 1) % n : Nat))) p x f n wt (Nd.sub1 wt (k1 : Nat)) ((k1 + 1) % n) ∧ Sans (fun j => j = p ∨ j = f) w ((u.setCell ⟨f, k1, none⟩ (.int .i64 (wt k1 - 1))).setCell ⟨p, 2, none⟩ (.int .i64 ((k1 + 1) % n : Nat)))) :=
        fun u h1 h2 => h1.picked h2 k1 hk1n hwk.1
      obtain ⟨y, hy⟩ : ∃ y, wt k1 = y := ⟨_, rfl⟩
      have HY : Hid (wt k1 = y) := hy
      rw [hy] at hwk HPK
      obtain ⟨t, ht⟩ : ∃ t : Nat, (k1 + 1) % n = t := ⟨_, rfl⟩
      rw [ht] at HPK ⊢
      have hrem : ((k1 : Int) + 1).tmod (n : Int) = (t : Int) := by
        rw [← ht, Int.tmod_eq_emod_of_nonneg (by omega), Int.natCast_emod]
        rfl
      have hn0 : n ≠ 0 := by omega
      have hwr : IntKind.i64.wrap ((k1 : Int) + 1) = (k1 : Int) + 1 := by rw [IntKind.wrap_i64]; omega
      have htn : t < n := by rw [← ht]; exact Nat.mod_lt _ (by omega)
      have lpw : Hid (p ≠ f ∧ f ≠ w.heap.size ∧ p ≠ w.heap.size) := ⟨h.pf, by have := h.lf'; omega, by omega⟩
      clear ha hb hs hp1 hp2 h hcb hy ht ha0
      go_enter Tryz.func173, Tryz.ntmps173
      go_wp2_with fail
      rw [← hW]
      clear hW
      refine (wfirst_any H1.out HC.out m hm hA.out).mono ?_
      rintro e w1 ⟨rfl, hB1⟩
      have H2 : Hid (Whl w1 p x f n wt lf fr) := H1.out.below hB1
      have HC2 : Hid (w1.cell? ⟨w.heap.size, 0, none⟩ = some (.pointer (some ⟨p, 0, none⟩))) := (hB1.cell (p := ⟨w.heap.size, 0, none⟩) (cell_lt HC.out)).trans HC.out
      have HB1 : Hid (Below w.heap.size w w1) := later HB.out hB1
      have q1 := HC2.out
      clear hB1 H1 HC HB
      go_wp2_with fail
      refine (wsome_any H2.out).mono ?_
      rintro e u ⟨rfl, hq⟩
      obtain rfl := hq.symm
      rw [HS.out]
      go_wp2_with fail
      rw [hand.out]
      refine (wfirst_any H2.out HC2.out (m &&& s) hm2 hB.out).mono ?_
      rintro e w2 ⟨rfl, hB2⟩
      have H3 : Hid (Whl w2 p x f n wt lf fr) := H2.out.below hB2
      have HC3 : Hid (w2.cell? ⟨w.heap.size, 0, none⟩ = some (.pointer (some ⟨p, 0, none⟩))) := (hB2.cell (p := ⟨w.heap.size, 0, none⟩) (cell_lt HC2.out)).trans HC2.out
      have HB2 : Hid (Below w.heap.size w w2) := later HB1.out hB2
      clear hB2 H2 HC2 HB1 q1
      have q1 := HC3.out
      go_wp2_with fail
      refine (wfill_any H3.out).mono ?_
      rintro e w3 ⟨rfl, h4, s4⟩
      have H4 : Hid (Whl w3 p x f n wt wt fr) := h4
      have HC4 : Hid (w3.cell? ⟨w.heap.size, 0, none⟩ = some (.pointer (some ⟨p, 0, none⟩))) := (s4.cell (p := ⟨w.heap.size, 0, none⟩) (cell_lt HC3.out) (fun e => lpw.out.2.1 e.symm)).trans HC3.out
      have S4 : Hid (Sans (fun j => j = p ∨ j = f) w w3) := (Sans.of_below HB2.out).then (s4.mono (fun j e => .inr e))
      clear h4 s4 H3 HC3 HB2 q1
      have q1 := HC4.out
      go_wp2_with fail
      refine (wfirst_any H4.out HC4.out m hm hA.out).mono ?_
      rintro e w4 ⟨rfl, hB4⟩
      have H5 : Hid (Whl w4 p x f n wt wt fr) := H4.out.below hB4
      have HC5 : Hid (w4.cell? ⟨w.heap.size, 0, none⟩ = some (.pointer (some ⟨p, 0, none⟩))) := (hB4.cell (p := ⟨w.heap.size, 0, none⟩) (cell_lt HC4.out)).trans HC4.out
      have S5 : Hid (Sans (fun j => j = p ∨ j = f) w w4) := S4.out.then (Sans.of_below hB4)
      clear hB4 H4 HC4 S4 q1
      have q1 := HC5.out
      obtain ⟨xc, q2⟩ := H5.out.c0
      have q3 := H5.out.c1
      have q4 := H5.out.c2
      have q5 := H5.out.f2
      have q6 := H5.out.ls.cell hk1n
      rw [HY.out] at q6
      have q7 := H5.out.ls.frozen k1
      have HP := H5.out.pf
      have l1 : ¬ w.heap.size = f := fun e => lpw.out.2.1 e.symm
      have l2 : ¬ f = w.heap.size := lpw.out.2.1
      have l3 : ¬ f = p := fun e => HP e.symm
      have l4 : ¬ p = f := HP
      go_wp2_with fail
      go_region
      all_goals
        go_wp2_with fail
        go_ret
        obtain ⟨r1, r2⟩ := HPK.out w4 H5.out S5.out
        exact ⟨rfl, r1.below (drewN_below _ _), r2.then (Sans.drewN _ _)⟩
    · obtain ⟨k1, hk1, hk1n, hk1p⟩ := Nd.pickP_nat (p := fun i => m.testBit i && decide (0 < lf i)) (f := fr) (n := n) (by rw [hb]; exact hb0)
      rw [hb] at hk1
      have hwk : 1 ≤ lf k1 ∧ lf k1 ≤ 5 := by
        simp only [Bool.and_eq_true, decide_eq_true_eq] at hk1p
        have := h.lb k1 hk1n
        omega
      have e1 : Hid (Nd.wLane n lf fr m = (k1 : Nat)) := by
        show _ = _
        unfold Nd.wLane
        rw [ha, hb, if_neg ha0, if_neg hb0, hk1]
      have e2 : Hid (Nd.wLeft n wt lf fr m = Nd.sub1 lf (k1 : Nat)) := by
        show _ = _
        unfold Nd.wLeft
        rw [e1.out, ha, hb, if_neg ha0, if_neg hb0]
      have e3 : Hid (Nd.wFrom n lf fr m = (k1 + 1) % n) := by
        show _ = _
        unfold Nd.wFrom
        rw [e1.out, if_neg (by omega)]
        simp
      rw [e1.out, e2.out, e3.out]
      subst hk1
      have HPK : Hid (∀ u : World, Whl u p x f n wt lf fr → Sans (fun j => j = p ∨ j = f) w u → Whl ((u.setCell ⟨f, k1, none⟩ (.int .i64 (lf k1 - 1))).setCell ⟨p, 2, none⟩ (.int .i64 ((k1 + 1) % n : Nat))) p x f n wt (Nd.sub1 lf (k1 : Nat)) ((k1 + 1) % n) ∧ Sans (fun j => j = p ∨ j = f) w ((u.setCell ⟨f, k1, none⟩ (.int .i64 (lf k1 - 1))).setCell ⟨p, 2, none⟩ (.int .i64 ((k1 + 1) % n : Nat)))) :=
        fun u h1 h2 => h1.picked h2 k1 hk1n hwk.1
      obtain ⟨y, hy⟩ : ∃ y, lf k1 = y := ⟨_, rfl⟩
      have HY : Hid (lf k1 = y) := hy
      rw [hy] at hwk HPK
      obtain ⟨t, ht⟩ : ∃ t : Nat, (k1 + 1) % n = t := ⟨_, rfl⟩
      rw [ht] at HPK ⊢
      have hrem : ((k1 : Int) + 1).tmod (n : Int) = (t : Int) := by
        rw [← ht, Int.tmod_eq_emod_of_nonneg (by omega), Int.natCast_emod]
        rfl
      have hn0 : n ≠ 0 := by omega
      have hwr : IntKind.i64.wrap ((k1 : Int) + 1) = (k1 : Int) + 1 := by rw [IntKind.wrap_i64]; omega
      have htn : t < n := by rw [← ht]; exact Nat.mod_lt _ (by omega)
      have lpw : Hid (p ≠ f ∧ f ≠ w.heap.size ∧ p ≠ w.heap.size) := ⟨h.pf, by have := h.lf'; omega, by omega⟩
      clear ha hb hs hp1 hp2 h hcb hy ht ha0
      go_enter Tryz.func173, Tryz.ntmps173
      go_wp2_with fail
      rw [← hW]
      clear hW
      refine (wfirst_any H1.out HC.out m hm hA.out).mono ?_
      rintro e w1 ⟨rfl, hB1⟩
      have H2 : Hid (Whl w1 p x f n wt lf fr) := H1.out.below hB1
      have HC2 : Hid (w1.cell? ⟨w.heap.size, 0, none⟩ = some (.pointer (some ⟨p, 0, none⟩))) := (hB1.cell (p := ⟨w.heap.size, 0, none⟩) (cell_lt HC.out)).trans HC.out
      have HB1 : Hid (Below w.heap.size w w1) := later HB.out hB1
      have q1 := HC2.out
      clear hB1 H1 HC HB
      go_wp2_with fail
      refine (wsome_any H2.out).mono ?_
      rintro e u ⟨rfl, hq⟩
      obtain rfl := hq.symm
      rw [HS.out]
      go_wp2_with fail
      rw [hand.out]
      refine (wfirst_any H2.out HC2.out (m &&& s) hm2 hB.out).mono ?_
      rintro e w2 ⟨rfl, hB2⟩
      have H3 : Hid (Whl w2 p x f n wt lf fr) := H2.out.below hB2
      have HC3 : Hid (w2.cell? ⟨w.heap.size, 0, none⟩ = some (.pointer (some ⟨p, 0, none⟩))) := (hB2.cell (p := ⟨w.heap.size, 0, none⟩) (cell_lt HC2.out)).trans HC2.out
      have HB2 : Hid (Below w.heap.size w w2) := later HB1.out hB2
      clear hB2 H2 HC2 HB1 q1
      have q1 := HC3.out
      have H5 : Hid (Whl w2 p x f n wt lf fr) := H3.out
      have S5 : Hid (Sans (fun j => j = p ∨ j = f) w w2) := Sans.of_below HB2.out
      obtain ⟨xc, q2⟩ := H5.out.c0
      have q3 := H5.out.c1
      have q4 := H5.out.c2
      have q5 := H5.out.f2
      have q6 := H5.out.ls.cell hk1n
      rw [HY.out] at q6
      have q7 := H5.out.ls.frozen k1
      have HP := H5.out.pf
      have l1 : ¬ w.heap.size = f := fun e => lpw.out.2.1 e.symm
      have l2 : ¬ f = w.heap.size := lpw.out.2.1
      have l3 : ¬ f = p := fun e => HP e.symm
      have l4 : ¬ p = f := HP
      go_wp2_with fail
      go_region
      all_goals
        go_wp2_with fail
        go_ret
        obtain ⟨r1, r2⟩ := HPK.out w2 H5.out S5.out
        exact ⟨rfl, r1.below (drewN_below _ _), r2.then (Sans.drewN _ _)⟩
end
end Go.Proofs.YtniicgbkeifnjaaGreatDoor
namespace Go.Proofs.YtniicgbkeifnjaaGreatDoor.Cr
open Go.ChangeShapes Go.WideShapes Go.ChangeAt Go.RowKit
set_option linter.unusedVariables false
set_option maxRecDepth 100000
theorem drewN_below (w : World) (n : Nat) : Below w.heap.size w (w.drewN n) := ⟨rfl, rfl, rfl, Nat.le_refl _, fun _ _ => rfl⟩
structure Snd (w : World) (p : Nat) (s l : Int) : Prop where
  c0 : w.cell? ⟨p, 0, none⟩ = some (.int .u64 s)
  c1 : w.cell? ⟨p, 1, none⟩ = some (.int .u64 l)
  f0 : w.frozen? ⟨p, 0, none⟩ = false
  f1 : w.frozen? ⟨p, 1, none⟩ = false
  s0 : 0 ≤ s
  sl : s ≤ l
  l8 : l ≤ s + 8
theorem Snd.below {w w' : World} {p : Nat} {s l : Int} (h : Snd w p s l) (k : Below w.heap.size w w') : Snd w' p s l := by
  have hp : p < w.heap.size := cell_lt h.c0
  exact ⟨(k.cell (p := ⟨p, 0, none⟩) hp).trans h.c0, (k.cell (p := ⟨p, 1, none⟩) hp).trans h.c1, (k.frozen (p := ⟨p, 0, none⟩) hp).trans h.f0, (k.frozen (p := ⟨p, 1, none⟩) hp).trans h.f1, h.s0, h.sl, h.l8⟩
def Mine (w0 w : World) (p : Nat) (s l : Int) : Prop := Snd w p s l ∧ Sans (fun j => j = p) w0 w
theorem Mine.on {w0 w w' : World} {p : Nat} {s l : Int} (h : Mine w0 w p s l) (k : Below w.heap.size w w') : Mine w0 w' p s l := ⟨h.1.below k, h.2.then (Sans.of_below k)⟩
theorem Snd.sans {F : Nat → Prop} {w w' : World} {p : Nat} {s l : Int} (h : Snd w p s l) (k : Sans F w w') (hn : ¬ F p) : Snd w' p s l := by
  have hp : p < w.heap.size := cell_lt h.c0
  exact ⟨(k.cell (p := ⟨p, 0, none⟩) hp hn).trans h.c0, (k.cell (p := ⟨p, 1, none⟩) hp hn).trans h.c1, (k.frozen (p := ⟨p, 0, none⟩) hp hn).trans h.f0, (k.frozen (p := ⟨p, 1, none⟩) hp hn).trans h.f1, h.s0, h.sl, h.l8⟩
set_option maxHeartbeats 400000 in
theorem new_good (s r : Int) (hs : 0 ≤ s ∧ s < 4611686018427387904) (hr : 1 ≤ r ∧ r ≤ 8) (w : World) :
    Calls Tryz.prog 93 #[.int .u64 s, .int .i64 r] w fun e w' => ∃ p, e = .returned (.pointer (some ⟨p, 0, none⟩)) ∧ p = w.heap.size ∧ Snd w' p s (s + r) ∧ Below w.heap.size w w' := by
  have h1 : ¬ 4611686018427387904 ≤ s := by omega
  have h2 : ¬ r < 1 := by omega
  have h3 : ¬ 8 < r := by omega
  go_enter Tryz.func93, Tryz.ntmps93
  go_wp2
  go_ret
  refine ⟨w.heap.size, rfl, rfl, ⟨by simp, ?_, by simp, by simp, by omega, by omega, by omega⟩, fresh _ _⟩
  simp
theorem sent_any {w0 w : World} {p : Nat} {s l : Int} (h : Mine w0 w p s l) :
    Calls Tryz.prog 30 #[.pointer (some ⟨p, 0, none⟩)] w fun e w' => e = .returned (.int .u64 s) ∧ w' = w := by
  have hc0 := h.1.c0
  clear h
  go_enter Tryz.func30, Tryz.ntmps30
  go_wp2
  go_ret
  exact ⟨rfl, rfl⟩
theorem limit_any {w0 w : World} {p : Nat} {s l : Int} (h : Mine w0 w p s l) :
    Calls Tryz.prog 65 #[.pointer (some ⟨p, 0, none⟩)] w fun e w' => e = .returned (.int .u64 l) ∧ w' = w := by
  have hc1 := h.1.c1
  clear h
  go_enter Tryz.func65, Tryz.ntmps65
  go_wp2
  go_ret
  exact ⟨rfl, rfl⟩
set_option maxHeartbeats 400000 in
theorem left_any {w : World} {p : Nat} {s l : Int} (h : Snd w p s l) :
    Calls Tryz.prog 76 #[.pointer (some ⟨p, 0, none⟩)] w fun e w' => e = .returned (.int .u64 (l - s)) ∧ ∃ n, w' = w.drewN n := by
  have hc0 := h.c0
  have hc1 := h.c1
  have HR : Hid (0 ≤ s ∧ s ≤ l ∧ l ≤ s + 8) := ⟨h.s0, h.sl, h.l8⟩
  clear h
  go_enter Tryz.func76, Tryz.ntmps76
  go_wp2_with fail
  go_quiet (fail)
  go_wp2_with fail
  go_ret
  exact ⟨ret_int (by have := HR.out; rw [IntKind.wrap_u64]; omega), nq, rfl⟩
theorem Mine.sentOn {w0 w : World} {p : Nat} {s l : Int} (h : Mine w0 w p s l) (t : Int) (h1 : s ≤ t) (h2 : t ≤ l) : Mine w0 (w.setCell ⟨p, 0, none⟩ (.int .u64 t)) p t l := by
  obtain ⟨hs, hb⟩ := h
  have := hs.s0; have := hs.l8
  refine ⟨⟨World.cell?_setCell_same _ _ _ hs.c0, cell_set hs.c1 (by omega), ?_, ?_, by omega, by omega, by omega⟩, hb.then (Sans.of_set _ _ _ rfl)⟩
  · rw [World.frozen?_setCell]; exact hs.f0
  · rw [World.frozen?_setCell]; exact hs.f1
theorem Mine.limitOn {w0 w : World} {p : Nat} {s l : Int} (h : Mine w0 w p s l) (t : Int) (h1 : l ≤ t) (h2 : t ≤ s + 8) : Mine w0 (w.setCell ⟨p, 1, none⟩ (.int .u64 t)) p s t := by
  obtain ⟨hs, hb⟩ := h
  have := hs.s0; have := hs.sl
  refine ⟨⟨cell_set hs.c0 (by omega), World.cell?_setCell_same _ _ _ hs.c1, ?_, ?_, by omega, by omega, by omega⟩, hb.then (Sans.of_set _ _ _ rfl)⟩
  · rw [World.frozen?_setCell]; exact hs.f0
  · rw [World.frozen?_setCell]; exact hs.f1
set_option maxHeartbeats 400000 in
theorem usable_any {w0 w : World} {p : Nat} {s l : Int} (h : Mine w0 w p s l) (u : Int) (hu : l - s = u) :
    Calls Tryz.prog 29 #[.pointer (some ⟨p, 0, none⟩)] w fun e w' => e = .returned (.int .i64 u) ∧ Mine w0 w' p s l := by
  have HM : Hid (Mine w0 w p s l) := h
  have hc0 := h.1.c0
  have HR : Hid (0 ≤ s ∧ s ≤ l ∧ l ≤ s + 8) := ⟨h.1.s0, h.1.sl, h.1.l8⟩
  have hr : 0 ≤ u ∧ u ≤ 8 := by have := HR.out; omega
  clear h
  go_enter Tryz.func29, Tryz.ntmps29
  go_wp2_with fail
  refine (left_any HM.out.1).mono ?_
  rintro e w1 ⟨rfl, n, rfl⟩
  rw [hu]
  go_wp2_with fail
  go_ret
  exact ⟨ret_int (by first | rfl | (rw [IntKind.wrap_i64]; omega)), HM.out.on (drewN_below _ _)⟩
set_option maxHeartbeats 400000 in
theorem next_none {w0 w : World} {p : Nat} {s l : Int} (h : Mine w0 w p s l) (hu : l = s) :
    Calls Tryz.prog 177 #[.pointer (some ⟨p, 0, none⟩)] w fun e w' => e = .returned (.tuple #[.int .u64 0, .bool false]) ∧ Mine w0 w' p s l := by
  have HM : Hid (Mine w0 w p s l) := h
  have hc0 := h.1.c0
  have hu0 : l - s = 0 := by omega
  clear h hu
  go_enter Tryz.func177, Tryz.ntmps177
  go_wp2_with fail
  refine (left_any HM.out.1).mono ?_
  rintro e w1 ⟨rfl, n, rfl⟩
  rw [hu0]
  go_wp2_with fail
  go_ret2
  exact ⟨rfl, HM.out.on (drewN_below _ _)⟩
set_option maxHeartbeats 400000 in
theorem next_some {w0 w : World} {p : Nat} {s l : Int} (h : Mine w0 w p s l) (hu : l ≠ s) (hb : s ≤ 9223372036854775807) :
    Calls Tryz.prog 177 #[.pointer (some ⟨p, 0, none⟩)] w fun e w' => e = .returned (.tuple #[.int .u64 s, .bool true]) ∧ Mine w0 w' p (s + 1) l := by
  have HM : Hid (Mine w0 w p s l) := h
  have HR : Hid (0 ≤ s ∧ s ≤ l ∧ l ≤ s + 8 ∧ l ≠ s) := ⟨h.1.s0, h.1.sl, h.1.l8, hu⟩
  have hc0 := h.1.c0
  obtain ⟨u, hu1⟩ : ∃ u, l - s = u := ⟨_, rfl⟩
  have hu2 : (u == 0) = false := by have := HR.out; simp; omega
  have hs0 := h.1.s0
  clear h hu
  go_enter Tryz.func177, Tryz.ntmps177
  go_wp2_with fail
  refine (left_any HM.out.1).mono ?_
  rintro e w1 ⟨rfl, n, rfl⟩
  rw [hu1]
  have HM1 : Hid (Mine w0 (w.drewN n) p s l) := HM.out.on (drewN_below _ _)
  obtain ⟨w1, hw1⟩ : ∃ w1, w.drewN n = w1 := ⟨_, rfl⟩
  rw [hw1] at HM1 ⊢
  have c0 := HM1.out.1.c0
  have f0 := HM1.out.1.f0
  clear hw1 hc0 HM
  go_wp2_with fail
  go_ret2
  refine ⟨rfl, ?_⟩
  have e1 : IntKind.u64.wrap (s + 1) = s + 1 := by rw [IntKind.wrap_u64]; omega
  first | exact HM1.out.sentOn (s + 1) (by omega) (by have := HR.out; omega) | (rw [e1]; exact HM1.out.sentOn (s + 1) (by omega) (by have := HR.out; omega))
set_option maxHeartbeats 400000 in
theorem mayEnd_any {w : World} {p : Nat} {s l : Int} (h : Snd w p s l) (n : Int) (h0 : 0 ≤ n) (h1 : n ≤ 18446744073709551615) (hs : s ≤ 9223372036854775807) (b : Bool) (hb : decide (l < n ∧ n ≤ s + 8) = b) :
    Calls Tryz.prog 137 #[.pointer (some ⟨p, 0, none⟩), .int .u64 n] w fun e w' => e = .returned (.bool b) ∧ w' = w := by
  have hc0 := h.c0
  have hc1 := h.c1
  have hs0 := h.s0
  clear h
  by_cases hl : l < n
  · go_enter Tryz.func137, Tryz.ntmps137
    go_wp2_with fail
    go_ret
    refine ⟨ret_bool ?_, rfl⟩
    rw [← hb]
    by_cases h8 : n ≤ s + 8
    · simp [hl, h8]
    · simp [h8]
  · go_enter Tryz.func137, Tryz.ntmps137
    go_wp2_with fail
    go_ret
    refine ⟨ret_bool ?_, rfl⟩
    rw [← hb]
    exact (decide_eq_false (fun h => absurd h.1 (by omega))).symm
set_option maxHeartbeats 400000 in
theorem hear_no {w0 w : World} {p : Nat} {s l : Int} (h : Mine w0 w p s l) (x : Int) (hx : 0 ≤ x ∧ x ≤ 65535) (hs : s ≤ 9223372036854775807) (hn : ¬ (l < widI l x ∧ widI l x ≤ s + 8)) :
    Calls Tryz.prog 81 #[.pointer (some ⟨p, 0, none⟩), .int .u16 x] w fun e w' => e = .returned (.bool false) ∧ Mine w0 w' p s l := by
  have HM : Hid (Mine w0 w p s l) := h
  have HR : Hid (0 ≤ s ∧ s ≤ l ∧ l ≤ s + 8) := ⟨h.1.s0, h.1.sl, h.1.l8⟩
  have hc0 := h.1.c0
  have hc1 := h.1.c1
  obtain ⟨v, hv⟩ : ∃ v, widI l x = v := ⟨_, rfl⟩
  have hvr := widI_range l x
  rw [hv] at hvr hn
  have HN : Hid (decide (l < v ∧ v ≤ s + 8) = false) := decide_eq_false hn
  clear h hn
  go_enter Tryz.func81, Tryz.ntmps81
  go_wp2_with fail
  refine (widen_any l x (by have := HR.out; omega) (by have := HR.out; omega) hx.1 hx.2 _).mono ?_
  rintro e w1 ⟨rfl, rfl⟩
  rw [hv]
  go_wp2_with fail
  refine (mayEnd_any HM.out.1 v hvr.1 hvr.2 hs false HN.out).mono ?_
  rintro e w1 ⟨rfl, rfl⟩
  go_wp2_with fail
  go_ret
  exact ⟨rfl, HM.out⟩
set_option maxHeartbeats 400000 in
theorem hear_yes {w0 w : World} {p : Nat} {s l : Int} (h : Mine w0 w p s l) (x : Int) (hx : 0 ≤ x ∧ x ≤ 65535) (hs : s ≤ 9223372036854775807) (v : Int) (hv : widI l x = v) (hn : l < v ∧ v ≤ s + 8) :
    Calls Tryz.prog 81 #[.pointer (some ⟨p, 0, none⟩), .int .u16 x] w fun e w' => e = .returned (.bool true) ∧ Mine w0 w' p s v := by
  have HM : Hid (Mine w0 w p s l) := h
  have HR : Hid (0 ≤ s ∧ s ≤ l ∧ l ≤ s + 8) := ⟨h.1.s0, h.1.sl, h.1.l8⟩
  have hc0 := h.1.c0
  have hc1 := h.1.c1
  have hf1 := h.1.f1
  have hvr := widI_range l x
  rw [hv] at hvr
  have HN : Hid (decide (l < v ∧ v ≤ s + 8) = true) := decide_eq_true hn
  have HV : Hid (l < v ∧ v ≤ s + 8) := hn
  clear h hn
  go_enter Tryz.func81, Tryz.ntmps81
  go_wp2_with fail
  refine (widen_any l x (by have := HR.out; omega) (by have := HR.out; omega) hx.1 hx.2 _).mono ?_
  rintro e w1 ⟨rfl, rfl⟩
  rw [hv]
  go_wp2_with fail
  refine (mayEnd_any HM.out.1 v hvr.1 hvr.2 hs true HN.out).mono ?_
  rintro e w1 ⟨rfl, rfl⟩
  go_wp2_with fail
  go_ret
  exact ⟨rfl, HM.out.limitOn v (by have := HV.out; omega) (by have := HV.out; omega)⟩
section
variable {w : World} {p : Nat} {s l : Int}
theorem shear_any (h : Snd w p s l) (x : Int) (hx : 0 ≤ x ∧ x ≤ 65535) (hs : s ≤ 9223372036854775807) :
    Calls Tryz.prog 81 #[.pointer (some ⟨p, 0, none⟩), .int .u16 x] w fun e w' => Nd.AnyB e ∧ Snd w' p (Nd.sHear (s, l) x).1 (Nd.sHear (s, l) x).2 ∧ Sans (fun j => j = p) w w' := by
  by_cases hn : l < widI l x ∧ widI l x ≤ s + 8
  · have e : Nd.sHear (s, l) x = (s, widI l x) := if_pos hn
    rw [e]
    exact (hear_yes (w0 := w) ⟨h, Sans.refl _ _⟩ x hx hs _ rfl hn).mono fun e w' ⟨he, hm⟩ => ⟨⟨true, he⟩, hm.1, hm.2⟩
  · have e : Nd.sHear (s, l) x = (s, l) := if_neg hn
    rw [e]
    exact (hear_no (w0 := w) ⟨h, Sans.refl _ _⟩ x hx hs hn).mono fun e w' ⟨he, hm⟩ => ⟨⟨false, he⟩, hm.1, hm.2⟩
theorem snext_any (h : Snd w p s l) (hs : s ≤ 9223372036854775807) :
    Calls Tryz.prog 177 #[.pointer (some ⟨p, 0, none⟩)] w fun e w' => Nd.AnyT (Nd.sNum (s, l)) e ∧ Snd w' p (Nd.sNext (s, l)).1 (Nd.sNext (s, l)).2 ∧ Sans (fun j => j = p) w w' := by
  by_cases hu : l = s
  · have e1 : Nd.sNum (s, l) = 0 := if_pos hu
    have e2 : Nd.sNext (s, l) = (s, l) := if_pos hu
    rw [e1, e2]
    exact (next_none (w0 := w) ⟨h, Sans.refl _ _⟩ hu).mono fun e w' ⟨he, hm⟩ => ⟨⟨false, he⟩, hm.1, hm.2⟩
  · have e1 : Nd.sNum (s, l) = s := if_neg hu
    have e2 : Nd.sNext (s, l) = (s + 1, l) := if_neg hu
    rw [e1, e2]
    exact (next_some (w0 := w) ⟨h, Sans.refl _ _⟩ hu hs).mono fun e w' ⟨he, hm⟩ => ⟨⟨true, he⟩, hm.1, hm.2⟩
set_option maxHeartbeats 400000 in
theorem susable_below (h : Snd w p s l) {u : Int} (hu : l - s = u) :
    Calls Tryz.prog 29 #[.pointer (some ⟨p, 0, none⟩)] w fun e w' => e = .returned (.int .i64 u) ∧ Below w.heap.size w w' := by
  have HM : Hid (Snd w p s l) := h
  have hc0 := h.c0
  have HR : Hid (0 ≤ s ∧ s ≤ l ∧ l ≤ s + 8) := ⟨h.s0, h.sl, h.l8⟩
  have hr : 0 ≤ u ∧ u ≤ 8 := by have := HR.out; omega
  clear h
  go_enter Tryz.func29, Tryz.ntmps29
  go_wp2_with fail
  refine (left_any HM.out).mono ?_
  rintro e w1 ⟨rfl, n, rfl⟩
  rw [hu]
  go_wp2_with fail
  go_ret
  exact ⟨ret_int (by first | rfl | (rw [IntKind.wrap_i64]; omega)), drewN_below _ _⟩
theorem ssent_any (h : Snd w p s l) :
    Calls Tryz.prog 30 #[.pointer (some ⟨p, 0, none⟩)] w fun e w' => e = .returned (.int .u64 s) ∧ w' = w := sent_any (w0 := w) ⟨h, Sans.refl _ _⟩
end
end Go.Proofs.YtniicgbkeifnjaaGreatDoor.Cr
