/-
  The document's own host (package shunterref15): Put on the call's own. Conditions: none but that the host is such.
-/
import Derived.Test.YtfldhjeeoaplfaaRefHostB
namespace Go.Proofs.Ytfldhjeeoaplfaa
open Go.ChangeShapes Go.WideShapes Go.ChangeAt Go.RowKit
set_option linter.unusedVariables false

section
variable {w : World} {F : Nat → Prop} {r n q : Nat} {L G : List Pk}
set_option maxHeartbeats 4000000 in
set_option maxRecDepth 100000 in
theorem rhPut_lane (h : HAt w F r n q L G) (x : Pk) (hl : x.l < 0 ∨ (n : Int) ≤ x.l) :
    Calls Try.prog 19 #[.pointer (some ⟨r, 0, none⟩), .agg #[.int .i64 x.s, .int .i64 x.d, .int .i64 x.l, .int .u32 x.b]] w fun e w' => e = .returned (.int .i64 1) ∧ Below w.heap.size w w' := by
  obtain ⟨a, cap, b, capb, h⟩ := h
  obtain ⟨W, hW⟩ : ∃ W, W = w.alloc (.cells #[.int .i64 x.s, .int .i64 x.d, .int .i64 x.l, .int .u32 x.b] 27) := ⟨_, rfl⟩
  have bel : Below w.heap.size w W := by rw [hW]; exact fresh _ _
  obtain ⟨m, hm⟩ : ∃ m, L.length = m := ⟨_, rfl⟩
  have HB : Hid (Below w.heap.size w W) := bel
  have H0 : Hid (HIn w F r n q L G a cap b capb) := h
  have HM : Hid (L.length = m) := hm
  have p0 : W.cell? ⟨w.heap.size, 0, none⟩ = some (.int .i64 x.s) := by rw [hW]; simp
  have p1 : W.cell? ⟨w.heap.size, 1, none⟩ = some (.int .i64 x.d) := by rw [hW]; simp
  have p2 : W.cell? ⟨w.heap.size, 2, none⟩ = some (.int .i64 x.l) := by rw [hW]; simp
  have p3 : W.cell? ⟨w.heap.size, 3, none⟩ = some (.int .u32 x.b) := by rw [hW]; simp
  have c0 := (h.below bel).c0
  have c1 := (h.below bel).c1
  have hne := Since.any W
  have d0 := fun j : Since W => j.cell c0
  have d1 := fun j : Since W => j.cell c1
  have d2 := fun j : Since W => j.cell p2
  clear h bel hm c0 c1 p0 p1 p2 p3
  by_cases h0 : x.l < 0
  · have g0 : decide (x.l < 0) = true := decide_eq_true h0
    clear h0 hl
    go_enter Try.func19, Try.ntmps19
    go_wp2_with fail
    rw [← hW]
    clear hW
    refine region_since (u := W) (by kernel_rfl) (by kernel_rfl) (Below.refl _ _) ?_
    repeat (go_big_quiet_step (first | fail))
    refine wpQuiet_nil ?_
    intro _ hw'
    obtain ⟨nq, hw2⟩ := hw'
    subst hw2
    go_wp2_with fail
    go_ret
    exact ⟨rfl, later HB.out nq.h⟩
  · have g0 : decide (x.l < 0) = false := decide_eq_false h0
    have g1 : decide ((n : Int) ≤ x.l) = true := decide_eq_true (by omega)
    clear h0 hl
    go_enter Try.func19, Try.ntmps19
    go_wp2_with fail
    rw [← hW]
    clear hW
    refine region_since (u := W) (by kernel_rfl) (by kernel_rfl) (Below.refl _ _) ?_
    repeat (go_big_quiet_step (first | fail))
    refine wpQuiet_nil ?_
    intro _ hw'
    obtain ⟨nq, hw2⟩ := hw'
    subst hw2
    go_wp2_with fail
    go_ret
    exact ⟨rfl, later HB.out nq.h⟩
set_option maxHeartbeats 4000000 in
set_option maxRecDepth 100000 in
theorem rhPut_full (h : HAt w F r n q L G) (x : Pk) (hl : ¬ (x.l < 0 ∨ (n : Int) ≤ x.l)) (hq : q ≤ (Hst.lane L x.l).length) :
    Calls Try.prog 19 #[.pointer (some ⟨r, 0, none⟩), .agg #[.int .i64 x.s, .int .i64 x.d, .int .i64 x.l, .int .u32 x.b]] w fun e w' => e = .returned (.int .i64 150) ∧ Below w.heap.size w w' := by
  obtain ⟨a, cap, b, capb, h⟩ := h
  obtain ⟨W, hW⟩ : ∃ W, W = w.alloc (.cells #[.int .i64 x.s, .int .i64 x.d, .int .i64 x.l, .int .u32 x.b] 27) := ⟨_, rfl⟩
  have bel : Below w.heap.size w W := by rw [hW]; exact fresh _ _
  obtain ⟨m, hm⟩ : ∃ m, L.length = m := ⟨_, rfl⟩
  have HB : Hid (Below w.heap.size w W) := bel
  have H0 : Hid (HIn w F r n q L G a cap b capb) := h
  have HM : Hid (L.length = m) := hm
  have p0 : W.cell? ⟨w.heap.size, 0, none⟩ = some (.int .i64 x.s) := by rw [hW]; simp
  have p1 : W.cell? ⟨w.heap.size, 1, none⟩ = some (.int .i64 x.d) := by rw [hW]; simp
  have p2 : W.cell? ⟨w.heap.size, 2, none⟩ = some (.int .i64 x.l) := by rw [hW]; simp
  have p3 : W.cell? ⟨w.heap.size, 3, none⟩ = some (.int .u32 x.b) := by rw [hW]; simp
  have c0 := (h.below bel).c0
  have c1 := (h.below bel).c1
  have hne := Since.any W
  have d0 := fun j : Since W => j.cell c0
  have d1 := fun j : Since W => j.cell c1
  have d2 := fun j : Since W => j.cell p2
  have g0 : decide (x.l < 0) = false := decide_eq_false (by omega)
  have g1 : decide ((n : Int) ≤ x.l) = false := decide_eq_false (by omega)
  clear h bel hm
  go_enter Try.func19, Try.ntmps19
  go_wp2_with fail
  rw [← hW]
  clear hW
  refine region_since (u := W) (by kernel_rfl) (by kernel_rfl) (Below.refl _ _) ?_
  repeat (go_big_quiet_step (first | fail))
  refine wpQuiet_nil ?_
  intro _ hw'
  obtain ⟨nq, hw2⟩ := hw'
  subst hw2
  have HU : Hid (Below w.heap.size w nq.w) := later HB.out nq.h
  have e0 := (nq.h.cell (p := ⟨w.heap.size, 0, none⟩) (cell_lt p0)).trans p0
  have e1 := (nq.h.cell (p := ⟨w.heap.size, 1, none⟩) (cell_lt p1)).trans p1
  have e2 := (nq.h.cell (p := ⟨w.heap.size, 2, none⟩) (cell_lt p2)).trans p2
  have e3 := (nq.h.cell (p := ⟨w.heap.size, 3, none⟩) (cell_lt p3)).trans p3
  have e5 := (nq.h.cell (p := ⟨r, 1, none⟩) (cell_lt c1)).trans c1
  clear d0 d1 d2 hne p0 p1 p2 p3 c0 c1
  obtain ⟨W2, hW2⟩ : ∃ W2, nq.w = W2 := ⟨_, rfl⟩
  rw [hW2] at HU e0 e1 e2 e3 e5 ⊢
  clear hW2
  have hne := Since.any W2
  have d1 := fun j : Since W2 => j.cell e5
  have d2 := fun j : Since W2 => j.cell e2
  obtain ⟨c, hc⟩ : ∃ c, (Hst.lane L x.l).length = c := ⟨_, rfl⟩
  rw [hc] at hq
  have HCall : Hid (∀ j : Since W2, Calls Try.prog 21 #[.pointer (some ⟨r, 0, none⟩), .int .i64 x.l] j.w fun e w' => e = .returned (.int .i64 c) ∧ Below j.w.heap.size j.w w') := fun j => (rhWaits_any ⟨a, cap, b, capb, (H0.out.below HU.out).below j.h⟩ x.l hc).mono fun e w' ⟨he, hw⟩ => ⟨he, by rw [hw]; exact Below.refl _ _⟩
  have g2 : decide ((q : Int) ≤ (c : Int)) = true := decide_eq_true (by omega)
  clear hc
  go_wp2_with fail
  refine region_since (u := W2) (by kernel_rfl) (by kernel_rfl) (Below.refl _ _) ?_
  repeat (go_big_quiet_step (first | (go_at_call 21; exact Since.calls _ (HCall.out _))))
  refine wpQuiet_nil ?_
  intro _ hw'
  obtain ⟨nr, hw2⟩ := hw'
  subst hw2
  go_wp2_with fail
  go_ret
  exact ⟨rfl, later HU.out nr.h⟩
set_option maxHeartbeats 4000000 in
set_option maxRecDepth 100000 in
theorem rhPut_ok (h : HAt w F r n q L G) (x : Pk) (hl : ¬ (x.l < 0 ∨ (n : Int) ≤ x.l)) (hq : ¬ q ≤ (Hst.lane L x.l).length) :
    Calls Try.prog 19 #[.pointer (some ⟨r, 0, none⟩), .agg #[.int .i64 x.s, .int .i64 x.d, .int .i64 x.l, .int .u32 x.b]] w fun e w' => e = .returned (.int .i64 0) ∧ ∃ F', HAt w' F' r n q (L ++ [x]) G ∧ Grows F w F' w' := by
  obtain ⟨a, cap, b, capb, h⟩ := h
  obtain ⟨W, hW⟩ : ∃ W, W = w.alloc (.cells #[.int .i64 x.s, .int .i64 x.d, .int .i64 x.l, .int .u32 x.b] 27) := ⟨_, rfl⟩
  have bel : Below w.heap.size w W := by rw [hW]; exact fresh _ _
  obtain ⟨m, hm⟩ : ∃ m, L.length = m := ⟨_, rfl⟩
  have HB : Hid (Below w.heap.size w W) := bel
  have H0 : Hid (HIn w F r n q L G a cap b capb) := h
  have HM : Hid (L.length = m) := hm
  have p0 : W.cell? ⟨w.heap.size, 0, none⟩ = some (.int .i64 x.s) := by rw [hW]; simp
  have p1 : W.cell? ⟨w.heap.size, 1, none⟩ = some (.int .i64 x.d) := by rw [hW]; simp
  have p2 : W.cell? ⟨w.heap.size, 2, none⟩ = some (.int .i64 x.l) := by rw [hW]; simp
  have p3 : W.cell? ⟨w.heap.size, 3, none⟩ = some (.int .u32 x.b) := by rw [hW]; simp
  have c0 := (h.below bel).c0
  have c1 := (h.below bel).c1
  have hne := Since.any W
  have d0 := fun j : Since W => j.cell c0
  have d1 := fun j : Since W => j.cell c1
  have d2 := fun j : Since W => j.cell p2
  have g0 : decide (x.l < 0) = false := decide_eq_false (by omega)
  have g1 : decide ((n : Int) ≤ x.l) = false := decide_eq_false (by omega)
  have hfit : Hst.Fits n q (L ++ [x]) := by
    have := h.fit.put x
    rw [Hst.putL_yes (Hst.putE_ok hl hq)] at this
    exact this
  have HFit : Hid (Hst.Fits n q (L ++ [x])) := hfit
  have hm24 : m ≤ 24 := by rw [← hm]; exact h.fit.len
  clear h bel hm hfit
  go_enter Try.func19, Try.ntmps19
  go_wp2_with fail
  rw [← hW]
  clear hW
  refine region_since (u := W) (by kernel_rfl) (by kernel_rfl) (Below.refl _ _) ?_
  repeat (go_big_quiet_step (first | fail))
  refine wpQuiet_nil ?_
  intro _ hw'
  obtain ⟨nq, hw2⟩ := hw'
  subst hw2
  have HU : Hid (Below w.heap.size w nq.w) := later HB.out nq.h
  have e0 := (nq.h.cell (p := ⟨w.heap.size, 0, none⟩) (cell_lt p0)).trans p0
  have e1 := (nq.h.cell (p := ⟨w.heap.size, 1, none⟩) (cell_lt p1)).trans p1
  have e2 := (nq.h.cell (p := ⟨w.heap.size, 2, none⟩) (cell_lt p2)).trans p2
  have e3 := (nq.h.cell (p := ⟨w.heap.size, 3, none⟩) (cell_lt p3)).trans p3
  have e5 := (nq.h.cell (p := ⟨r, 1, none⟩) (cell_lt c1)).trans c1
  clear d0 d1 d2 hne p0 p1 p2 p3 c0 c1
  obtain ⟨W2, hW2⟩ : ∃ W2, nq.w = W2 := ⟨_, rfl⟩
  rw [hW2] at HU e0 e1 e2 e3 e5 ⊢
  clear hW2
  have hne := Since.any W2
  have d1 := fun j : Since W2 => j.cell e5
  have d2 := fun j : Since W2 => j.cell e2
  obtain ⟨c, hc⟩ : ∃ c, (Hst.lane L x.l).length = c := ⟨_, rfl⟩
  rw [hc] at hq
  have HCall : Hid (∀ j : Since W2, Calls Try.prog 21 #[.pointer (some ⟨r, 0, none⟩), .int .i64 x.l] j.w fun e w' => e = .returned (.int .i64 c) ∧ Below j.w.heap.size j.w w') := fun j => (rhWaits_any ⟨a, cap, b, capb, (H0.out.below HU.out).below j.h⟩ x.l hc).mono fun e w' ⟨he, hw⟩ => ⟨he, by rw [hw]; exact Below.refl _ _⟩
  have g2 : decide ((q : Int) ≤ (c : Int)) = false := decide_eq_false (by omega)
  clear hc
  go_wp2_with fail
  refine region_since (u := W2) (by kernel_rfl) (by kernel_rfl) (Below.refl _ _) ?_
  repeat (go_big_quiet_step (first | (go_at_call 21; exact Since.calls _ (HCall.out _))))
  refine wpQuiet_nil ?_
  intro _ hw'
  obtain ⟨nr, hw2⟩ := hw'
  subst hw2
  have HV : Hid (Below w.heap.size w nr.w) := later HU.out nr.h
  have p0 := (nr.h.cell (p := ⟨w.heap.size, 0, none⟩) (cell_lt e0)).trans e0
  have p1 := (nr.h.cell (p := ⟨w.heap.size, 1, none⟩) (cell_lt e1)).trans e1
  have p2 := (nr.h.cell (p := ⟨w.heap.size, 2, none⟩) (cell_lt e2)).trans e2
  have p3 := (nr.h.cell (p := ⟨w.heap.size, 3, none⟩) (cell_lt e3)).trans e3
  have k2 := (H0.out.below HV.out).c2
  rw [HM.out] at k2
  clear d1 d2 hne e0 e1 e2 e3 e5 HCall
  obtain ⟨V, hV⟩ : ∃ V, nr.w = V := ⟨_, rfl⟩
  rw [hV] at HV p0 p1 p2 p3 k2 ⊢
  clear hV
  obtain ⟨i0, hi0, hz0, hz1, hz2⟩ := info_parts infoPk
  obtain ⟨X, hX⟩ : ∃ X : Obj, X = .cells #[.int .i64 x.s, .int .i64 x.d, .int .i64 x.l, .int .u32 x.b] 27 := ⟨_, rfl⟩
  have HBX : Hid (Below w.heap.size w (V.drew.alloc X)) := later (later HV.out (drewN_below V 1)) (fresh _ _)
  have HO : Hid ((V.drew.alloc X).ownsRow 0 27 4 (.slice a m cap) m (kcells L)) := by
    have := (H0.out.below HBX.out).rowL
    rw [HM.out] at this
    exact this
  have HNw : Hid (∀ (j : Nat) (v : Value), [Value.int .i64 x.s, .int .i64 x.d, .int .i64 x.l, .int .u32 x.b][j]? = some v → (V.drew.alloc X).cell? ((⟨V.heap.size, 0, none⟩ : Addr).add j) = some v) := by
    rw [hX]
    exact World.news_of_block (cs := #[.int .i64 x.s, .int .i64 x.d, .int .i64 x.l, .int .u32 x.b]) (t := 27) (fr := (0, 0)) (heap_alloc_new V.drew _)
  have hrl : r < w.heap.size := H0.out.foot r H0.out.self
  have hrn : some r ≠ (Value.slice a m cap).ownBlock := by
    cases a with
    | none => simp [Value.ownBlock]
    | some ad => simp only [Value.ownBlock]; intro e; injection e with e; exact (H0.out.headL ad rfl).2 e.symm
  subst hX
  have hru : r < V.heap.size := cell_lt k2
  have hwu : w.heap.size < V.heap.size := cell_lt p0
  go_wp2_with fail
  go_region_law (refine step_append_lies _ (by rfl) (.tmp 30) (.tmp 32) 31 (by rfl) 0 27 i0 _ 4 32 Try.underlying31 hi0 hz0 hz1 hz2 rfl (by decide) (.slice a m cap) m (kcells L) (by rfl) HO.out ⟨V.heap.size, 0, none⟩ 1 1 [.int .i64 x.s, .int .i64 x.d, .int .i64 x.l, .int .u32 x.b] (by rfl) rfl HNw.out (by simp [Value.oneCell']) (by decide) (by unfold maxLen; omega) (by omega) (Nat.zero_le _) (V.heap.size + 1) (by simp) ?_; intro g cap2 u2 hown hg hat hlt; have s0 : u2.cell? ⟨r, 2, none⟩ = some (.slice a m cap) := hg.cell (a := ⟨r, 2, none⟩) (((HBX.out.cell (p := ⟨r, 2, none⟩) hrl).trans H0.out.c2).trans (by rw [HM.out])) hrn; have s1 : u2.frozen? ⟨r, 2, none⟩ = false := (hg.frozen_far ⟨r, 2, none⟩ (Nat.lt_of_lt_of_le hrl HBX.out.size) hrn).trans ((HBX.out.frozen (p := ⟨r, 2, none⟩) hrl).trans H0.out.f2))
  all_goals
    go_wp2_with fail
    go_ret
    exact ⟨rfl, put_ref H0.out HM.out HFit.out HBX.out hown hg hat s0 HV.out.size⟩
theorem rhPut_any (h : HAt w F r n q L G) (x : Pk) {z : Int} (hz : Hst.putE n q L x = z) {L' : List Pk} (hL : Hst.putL n q L x = L') :
    Calls Try.prog 19 #[.pointer (some ⟨r, 0, none⟩), .agg #[.int .i64 x.s, .int .i64 x.d, .int .i64 x.l, .int .u32 x.b]] w fun e w' => e = .returned (.int .i64 z) ∧ ∃ F', HAt w' F' r n q L' G ∧ Grows F w F' w' := by
  by_cases hl : x.l < 0 ∨ (n : Int) ≤ x.l
  · have hp := Hst.putE_lane (q := q) (L := L) hl
    rw [hz] at hp
    subst hp
    rw [Hst.putL_no (by rw [hz]; decide)] at hL
    subst hL
    exact (rhPut_lane h x hl).mono fun e w' ⟨he, hb⟩ => ⟨he, F, h.below hb, grows_below F hb⟩
  · by_cases hq : q ≤ (Hst.lane L x.l).length
    · have hp := Hst.putE_full hl hq
      rw [hz] at hp
      subst hp
      rw [Hst.putL_no (by rw [hz]; decide)] at hL
      subst hL
      exact (rhPut_full h x hl hq).mono fun e w' ⟨he, hb⟩ => ⟨he, F, h.below hb, grows_below F hb⟩
    · have hp := Hst.putE_ok hl hq
      rw [hz] at hp
      subst hp
      rw [Hst.putL_yes hz] at hL
      subst hL
      exact rhPut_ok h x hl hq
end
end Go.Proofs.Ytfldhjeeoaplfaa
