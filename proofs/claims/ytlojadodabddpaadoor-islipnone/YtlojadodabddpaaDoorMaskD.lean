/-
  What mask.Bits and mask.Pick come to, at any mask. Conditions: that the table of math/bits holds what its initialiser lays (Bits).
-/
import Derived.Test.YtlojadodabddpaaDoorMaskC
namespace Go.Proofs.YtlojadodabddpaaDoor
open Go.ChangeShapes Go.WideShapes Go.ChangeAt Go.RowKit Go.Shelf
set_option linter.unusedVariables false
attribute [local go_sem] Oper.semAt_some

/-- a box that is laid anew: what it holds, and that it may be written -/
theorem newCell (W : World) (v : Value) (t : TypeId) : (W.alloc (.cells #[v] t)).cell? ⟨W.heap.size, 0, none⟩ = some v ∧ (W.alloc (.cells #[v] t)).frozen? ⟨W.heap.size, 0, none⟩ = false :=
  ⟨(Boxed.new W t v).cell, (Boxed.new W t v).frozen⟩
theorem cellOn {W : World} {a : Addr} {v : Value} (o : Obj) (h : W.cell? a = some v) : (W.alloc o).cell? a = some v := by
  refine cell_kept h (World.grownBy_alloc W o none) ?_
  intro r e
  cases e
theorem frozenOn {W : World} {a : Addr} {v : Value} (o : Obj) (h : W.cell? a = some v) (hf : W.frozen? a = false) : (W.alloc o).frozen? a = false := by
  refine (frozen_kept h (World.grownBy_alloc W o none) ?_).trans hf
  intro r e
  cases e
theorem hasB_all {m x : Nat} (hm : m < 65536) : hasB m (x : Nat) = m.testBit x := by
  by_cases h : x < 16
  · exact hasB_nat h
  · rw [hasB_out (.inr (by omega))]
    cases hb : m.testBit x with
    | false => rfl
    | true => exact absurd (Mask.bit_lt hm hb) h
theorem pick_all {m f n : Nat} (h : ∀ y ∈ Mask.roundOf f n, m.testBit y = false) : Mask.pick m f n = -1 := by
  unfold Mask.pick
  have : (Mask.roundOf f n).find? (fun i => m.testBit i) = none := by
    rw [List.find?_eq_none]
    intro x hx
    rw [h x hx]
    simp
  rw [this]
theorem pick_at {m f n x : Nat} {pre : List Nat} (hp : pre ++ [x] <+: Mask.roundOf f n) (h : ∀ y ∈ pre, m.testBit y = false) (hx : m.testBit x = true) : Mask.pick m f n = (x : Nat) := by
  unfold Mask.pick
  obtain ⟨t, ht⟩ := hp
  have e1 : pre.find? (fun i => m.testBit i) = none := by
    rw [List.find?_eq_none]
    intro x hx
    rw [h x hx]
    simp
  rw [← ht, List.find?_append, List.find?_append, e1]
  simp [hx]

set_option maxRecDepth 100000 in
set_option maxHeartbeats 2000000 in
theorem pick_in (m : Nat) (hm : m < 65536) (f n : Nat) (hn : n ≤ 16) (hf : f < n) (w : World) :
    Calls Tryd.prog 34 #[.int .u16 (m : Nat), .int .i64 (f : Nat), .int .i64 (n : Nat)] w fun e W' => e = .returned (.int .i64 (Mask.pick m f n)) ∧ Below w.heap.size w W' := by
  refine (callsIn_wide (n := 3)).1 ?_
  refine callsIn_of_wp_marks Tryd.func34 rfl trivial ?_ rfl
  simp only [Tryd.ntmps34, List.size_toArray, List.length_cons, List.length_nil, Nat.reduceAdd, Nat.reduceSub, Array.replicate_succ, Array.replicate_zero, List.push_toArray, List.append_toArray, List.nil_append, List.cons_append]
  have d1 : decide (1 ≤ (n : Int) ∧ (n : Int) ≤ 16) = true := decide_eq_true (by omega)
  have d3 : decide ((f : Int) < 0) = false := decide_eq_false (by omega)
  have d4 : decide (n ≤ f) = false := decide_eq_false (by omega)
  gi_wp2_with (first | (refine ⟨trivial, ?_⟩; gi_at_call 31; refine (callsIn_wide.2 (isSize_any _ _)).mono ?_; rintro e w' ⟨rfl, hq⟩; obtain rfl := hq.symm) | (refine ⟨trivial, ?_⟩; gi_at_call 42; refine (round_in (3 - 1) _ _ _).mono ?_; rintro e w' ⟨rfl, rfl⟩))
  clear hq
  have c0 := newCell w (.int .u16 (m : Nat)) 29
  have c1 := newCell (w.alloc (.cells #[.int .u16 (m : Nat)] 29)) (.int .i64 0) 3
  have c2 := newCell ((w.alloc (.cells #[.int .u16 (m : Nat)] 29)).alloc (.cells #[.int .i64 0] 3)) (.int .i64 (f : Nat)) 3
  have c3 := newCell (((w.alloc (.cells #[.int .u16 (m : Nat)] 29)).alloc (.cells #[.int .i64 0] 3)).alloc (.cells #[.int .i64 (f : Nat)] 3)) (.int .i64 (n : Nat)) 3
  simp only [World.size_alloc] at c1 c2 c3
  have k0 := cellOn (.cells #[.int .i64 (n : Nat)] 3) (cellOn (.cells #[.int .i64 (f : Nat)] 3) (cellOn (.cells #[.int .i64 0] 3) c0.1))
  have k1 := cellOn (.cells #[.int .i64 (n : Nat)] 3) (cellOn (.cells #[.int .i64 (f : Nat)] 3) c1.1)
  have f1 := frozenOn (.cells #[.int .i64 (n : Nat)] 3) (cellOn (.cells #[.int .i64 (f : Nat)] 3) c1.1) (frozenOn (.cells #[.int .i64 (f : Nat)] 3) c1.1 c1.2)
  have k2 := cellOn (.cells #[.int .i64 (n : Nat)] 3) c2.1
  have k3 := c3.1
  have hB0 : Below w.heap.size w ((((w.alloc (.cells #[.int .u16 (m : Nat)] 29)).alloc (.cells #[.int .i64 0] 3)).alloc (.cells #[.int .i64 (f : Nat)] 3)).alloc (.cells #[.int .i64 (n : Nat)] 3)) := ((((Below.refl _ w).alloc (Nat.le_refl _) _).alloc (by simp) _).alloc (by simp; omega) _).alloc (by simp; omega) _
  have hsz : ((((w.alloc (.cells #[.int .u16 (m : Nat)] 29)).alloc (.cells #[.int .i64 0] 3)).alloc (.cells #[.int .i64 (f : Nat)] 3)).alloc (.cells #[.int .i64 (n : Nat)] 3)).heap.size = w.heap.size + 4 := by simp
  clear c0 c1 c2 c3
  generalize ((((w.alloc (.cells #[.int .u16 (m : Nat)] 29)).alloc (.cells #[.int .i64 0] 3)).alloc (.cells #[.int .i64 (f : Nat)] 3)).alloc (.cells #[.int .i64 (n : Nat)] 3)) = U at k0 k1 f1 k2 k3 hB0 hsz ⊢
  refine wpIn_rangeFunc_ownF rfl (by decide) (gf := 44) (lb := #[.pointer (some ⟨w.heap.size + 1 + 1 + 1, 0, none⟩), .pointer (some ⟨w.heap.size + 1 + 1, 0, none⟩)]) rfl trivial (enters_of Tryd.func44 (by kernel_rfl) rfl)
    (round_stops (3 - 1) (by decide) (w.heap.size + 1 + 1 + 1) (w.heap.size + 1 + 1) U.heap.size n f hn hf (by omega) (by omega) U (Nat.le_refl _) k3 k2) belowK_t (belowK_b (Nat.le_refl _)) (Below.refl _ _) (fun _ => rfl)
    (fun pre W => ((∀ y ∈ pre, m.testBit y = false) ∧ W.cell? ⟨w.heap.size, 0, none⟩ = some (.int .u16 (m : Nat)) ∧ W.cell? ⟨w.heap.size + 1, 0, none⟩ = some (.int .i64 0) ∧ W.frozen? ⟨w.heap.size + 1, 0, none⟩ = false) ∧ Below w.heap.size w W)
    (fun c pre W => (c = .ret ∧ (∃ q x, pre = q ++ [x] ∧ (∀ y ∈ q, m.testBit y = false) ∧ m.testBit x = true ∧ W.cell? ⟨w.heap.size + 1, 0, none⟩ = some (.int .i64 (x : Nat)))) ∧ Below w.heap.size w W)
    (OwnFrom.and (Own.from (fun s A B row hs hg hr => ⟨hs.1, cell_kept hs.2.1 hg hr, cell_kept hs.2.2.1 hg hr, (frozen_kept hs.2.2.1 hg hr).trans hs.2.2.2⟩) _) (ownFrom_below (Nat.le_refl _) (by omega)))
    (fun c => OwnFrom.and (Own.from (fun s A B row hs hg hr => by obtain ⟨h1, q, x, h2, h3, h4, h5⟩ := hs; exact ⟨h1, q, x, h2, h3, h4, cell_kept h5 hg hr⟩) _) (ownFrom_below (Nat.le_refl _) (by omega)))
    ⟨⟨by simp, k0, k1, f1⟩, hB0⟩
    (fun x => { tmps := #[.int .u16 (m : Nat), .int .i64 (f : Nat), .int .i64 (n : Nat), .pointer (some ⟨w.heap.size, 0, none⟩), undef, undef, .pointer (some ⟨w.heap.size + 1, 0, none⟩), .int .i64 (x : Nat), .int .i64 (n : Nat), .bool true, .bool false, .bool false, .int .i64 (f : Nat), .bool false, .bool false, .bool false, .int .i64 (f : Nat), .int .i64 (n : Nat), .bool false, .bool false, .int .i64 (f : Nat), .int .i64 (n : Nat), .func (.func 44) #[] #[.pointer (some ⟨w.heap.size + 1 + 1 + 1, 0, none⟩), .pointer (some ⟨w.heap.size + 1 + 1, 0, none⟩)], .int .i64 (x : Nat), undef, undef, undef, undef], defers := [] }) ?assign ?body ?done ?stop
  case assign =>
    intro l x W K hK
    gi_wp2
    exact hK
  case body =>
    rintro l pre x W ⟨⟨hp, hcm, hcr, hfr⟩, hB⟩ _
    have hx := hasB_all (x := x) hm
    obtain ⟨b, hb⟩ : ∃ b, m.testBit x = b := ⟨_, rfl⟩
    rw [hb] at hx
    have HX : Hid (m.testBit x = b) := hb
    clear hb d1 d3 d4
    cases b with
    | true =>
      gi_wp2_with (refine ⟨trivial, ?_⟩; gi_at_call 43; refine (CallsIn.inRound l (callsIn_wide.2 (has_any m hm _ _))).mono ?_; rintro e w' ⟨rfl, hq⟩; obtain rfl := hq.symm)
      exact ⟨KeepsOthers.setCell _ _ _, ⟨rfl, pre, x, rfl, hp, HX.out, World.cell?_setCell_same' _ _ _ (by rw [hcr]; rfl)⟩, hB.setCell (p := ⟨w.heap.size + 1, 0, none⟩) (by simp) _⟩
    | false =>
      gi_wp2_with (refine ⟨trivial, ?_⟩; gi_at_call 43; refine (CallsIn.inRound l (callsIn_wide.2 (has_any m hm _ _))).mono ?_; rintro e w' ⟨rfl, hq⟩; obtain rfl := hq.symm)
      exact ⟨KeepsOthers.refl _, Below.refl _ _, ⟨fun y hy => (List.mem_append.1 hy).elim (hp y) (fun e => by simp at e; subst e; exact HX.out), hcm, hcr, hfr⟩, hB⟩
  case done =>
    rintro D ys W hD rfl ⟨⟨hne, _, hcr, hfr⟩, hB⟩ hK
    gi_wp2
    have hK' := (KeepsOthers.setCell W ⟨w.heap.size + 1, 0, none⟩ (.int .i64 (-1))).same D _ hK rfl
    refine ⟨by simp, .inl ⟨_, _, rfl, run_takeDeferred hK', ?_⟩⟩
    have hc5 := cell_kept (World.cell?_setCell_same' W ⟨w.heap.size + 1, 0, none⟩ (.int .i64 (-1)) (by rw [hcr]; rfl)) (grownBy_putObj' _ D (.deferred none)) (fun r e => by cases e; exact ⟨_, hK', rfl⟩)
    refine ⟨.int .i64 (-1), ?_, by rw [pick_all hne], (hB.setCell (p := ⟨w.heap.size + 1, 0, none⟩) (by simp) _).trans (belowK_b (w := w) (Nat.le_refl _) _ D _ _ (by omega) hK' rfl rfl)⟩
    simp [results, Tryd.f34, go_sem, hc5]
  case stop =>
    rintro D c pre W hD hpre ⟨⟨rfl, q, x, rfl, hq, hx, hcr⟩, hB⟩ hK
    gi_wp2
    refine ⟨by simp, .inl ⟨_, _, rfl, run_takeDeferred hK, ?_⟩⟩
    have hc5 := cell_kept hcr (grownBy_putObj' _ D (.deferred none)) (fun r e => by cases e; exact ⟨_, hK, rfl⟩)
    refine ⟨.int .i64 (x : Nat), ?_, by rw [pick_at hpre hq hx], hB.trans (belowK_b (w := w) (Nat.le_refl _) W D _ _ (by omega) hK rfl rfl)⟩
    simp [results, Tryd.f34, go_sem, hc5]

set_option maxRecDepth 100000 in
set_option maxHeartbeats 1000000 in
theorem pick_no (m : Nat) (hm : m < 65536) (f n : Int) (h : ¬ (1 ≤ n ∧ n ≤ 16 ∧ 0 ≤ f ∧ f < n)) (w : World) :
    Calls Tryd.prog 34 #[.int .u16 (m : Nat), .int .i64 f, .int .i64 n] w fun e W' => e = .returned (.int .i64 (-1)) ∧ Below w.heap.size w W' := by
  have hB0 : Below w.heap.size w ((w.alloc (.cells #[.int .u16 (m : Nat)] 29)).alloc (.cells #[.int .i64 (-1)] 3)) := ((Below.refl _ w).alloc (Nat.le_refl _) _).alloc (by simp) _
  have HB : Hid (Below w.heap.size w ((w.alloc (.cells #[.int .u16 (m : Nat)] 29)).alloc (.cells #[.int .i64 (-1)] 3))) := hB0
  clear hB0
  by_cases h1 : 1 ≤ n ∧ n ≤ 16
  · have d1 : decide (1 ≤ n ∧ n ≤ 16) = true := decide_eq_true h1
    by_cases h3 : f < 0
    · have d3 : decide (f < 0) = true := decide_eq_true h3
      go_enter Tryd.func34, Tryd.ntmps34
      go_wp2_with (go_at_call 31; refine (isSize_any _ _).mono ?_; rintro e w' ⟨rfl, hq⟩; obtain rfl := hq.symm)
      refine bodyPost_ret (v := .int .i64 (-1)) (by simp [results, Tryd.f34, go_sem]) rfl ?_
      exact ⟨rfl, HB.out⟩
    · have h4 : n ≤ f := by omega
      have d3 : decide (f < 0) = false := decide_eq_false h3
      have d4 : decide (n ≤ f) = true := decide_eq_true h4
      go_enter Tryd.func34, Tryd.ntmps34
      go_wp2_with (go_at_call 31; refine (isSize_any _ _).mono ?_; rintro e w' ⟨rfl, hq⟩; obtain rfl := hq.symm)
      refine bodyPost_ret (v := .int .i64 (-1)) (by simp [results, Tryd.f34, go_sem]) rfl ?_
      exact ⟨rfl, HB.out⟩
  · have d1 : decide (1 ≤ n ∧ n ≤ 16) = false := decide_eq_false h1
    go_enter Tryd.func34, Tryd.ntmps34
    go_wp2_with (go_at_call 31; refine (isSize_any _ _).mono ?_; rintro e w' ⟨rfl, hq⟩; obtain rfl := hq.symm)
    refine bodyPost_ret (v := .int .i64 (-1)) (by simp [results, Tryd.f34, go_sem]) rfl ?_
    exact ⟨rfl, HB.out⟩

theorem pick_any (m : Nat) (hm : m < 65536) (f n : Int) (w : World) :
    Calls Tryd.prog 34 #[.int .u16 (m : Nat), .int .i64 f, .int .i64 n] w fun e W' => e = .returned (.int .i64 (pickV m f n)) ∧ Below w.heap.size w W' := by
  by_cases h : 1 ≤ n ∧ n ≤ 16 ∧ 0 ≤ f ∧ f < n
  · obtain ⟨h1, h2, h3, h4⟩ := h
    obtain ⟨n, rfl⟩ := Int.eq_ofNat_of_zero_le (show 0 ≤ n by omega)
    obtain ⟨f, rfl⟩ := Int.eq_ofNat_of_zero_le h3
    rw [pickV_in (by omega) (by omega)]
    exact pick_in m hm f n (by omega) (by omega) w
  · rw [pickV_out h]
    exact pick_no m hm f n h w
end Go.Proofs.YtlojadodabddpaaDoor
