/-
  Contracts and plain facts that the walks lean on (PlanE, PlanF, RouteAll). Conditions: none but those that each states.
-/
import Derived.Test.YtniicgbkeifnjaaGreatDoorQ27
namespace Go.Proofs.YtniicgbkeifnjaaGreatDoor
open Go.ChangeShapes Go.WideShapes Go.ChangeAt Go.RowKit
set_option linter.unusedVariables false
set_option maxRecDepth 100000
set_option maxHeartbeats 2000000 in
set_option maxRecDepth 100000 in
theorem differ_any {w : World} {a : Option Addr} {n c : Nat} {es : List (Int × Int)} (h : Pr w a n es) (hn : n ≤ 8796093022208) :
    Calls Tryz.prog 197 #[.slice a n c] w fun e w' => e = .returned (.bool (decide es.Nodup)) ∧ Below w.heap.size w w' := by
  have HC : Hid (Calls Tryz.prog 220 #[.slice a n c] w fun e w' => ∃ v, e = .returned v ∧ w'.ownsRow w.heap.size 43 2 v es.length (pcells es) ∧ Below w.heap.size w w') := by
    cases a with
    | none =>
      have h0 : n = 0 := by
        rcases h.2.2 with h0 | ⟨b, off, e, _⟩
        · exact h0
        · cases e
      have he : es = [] := List.length_eq_zero_iff.1 (h.1.trans h0)
      refine (clone_nil w n c).mono ?_
      rintro e w' ⟨rfl, rfl⟩
      subst he
      exact ⟨_, rfl, World.ownsRow_nil _ _ _ _, Below.refl _ _⟩
    | some ad => exact clone_pr h hn
  have hln := h.1
  have HL : Hid (es.length ≤ 8796093022208) := by show _ ≤ _; omega
  clear h
  go_enter Tryz.func197, Tryz.ntmps197
  go_wp2_with fail
  refine Calls.mono HC.out ?_
  rintro e w1 ⟨v, rfl, ho, hB⟩
  have HO : Hid (w1.ownsRow w.heap.size 43 2 v es.length (pcells es)) := ho
  have HB : Hid (Below w.heap.size w w1) := hB
  clear ho hB
  go_wp2_with fail
  refine (sortE_own HO.out HL.out).mono ?_
  rintro e w2 ⟨rfl, l', hp, hso, ho2, hB2⟩
  have HO2 : Hid (w2.ownsRow w.heap.size 43 2 v l'.length (pcells l')) := ho2
  have HB2 : Hid (Below w.heap.size w w2) := HB.out.trans hB2
  have HN : Hid (Plan.Adj l' ↔ es.Nodup) := (Plan.adj_nodup hso).trans hp.nodup_iff
  have HL2 : Hid (l'.length = n) := hp.length_eq.trans hln
  clear hp hso ho2 hB2
  go_wp2_with fail
  refine (compactE_own HO2.out (by have := HL2.out; omega)).mono ?_
  rintro e w3 ⟨a3, m, cap3, rfl, hm, hB3⟩
  rw [HL2.out] at hm
  have HM : Hid (m = n ↔ es.Nodup) := hm.trans HN.out
  have HB3 : Hid (Below w.heap.size w w3) := HB2.out.trans hB3
  clear hm hB3
  by_cases hq : m = n
  · have hd : decide es.Nodup = true := decide_eq_true (HM.out.1 hq)
    have HD : Hid (decide es.Nodup = true) := hd
    have hq' : ((m : Int) == n) = true := by rw [beq_iff_eq]; omega
    clear hd hq
    go_wp2_with fail
    go_ret
    exact ⟨by rw [HD.out]; rfl, HB3.out⟩
  · have hd : decide es.Nodup = false := decide_eq_false (fun h => hq (HM.out.2 h))
    have HD : Hid (decide es.Nodup = false) := hd
    have hq' : ((m : Int) == n) = false := by rw [beq_eq_false_iff_ne]; omega
    clear hd hq
    go_wp2_with fail
    go_ret
    exact ⟨by rw [HD.out]; rfl, HB3.out⟩
theorem Plan.edgesOk_parts (N : Int) (es : List (Int × Int)) : Plan.edgesOk N es = (decide (es.length ≤ 15) && es.all (Plan.goodB N) && decide es.Nodup) := by
  have h : es.all (Plan.goodB N) = es.all (fun e => decide (0 ≤ e.1) && decide (e.1 < e.2) && decide (e.2 < N)) := rfl
  rw [h]
  unfold Plan.edgesOk
  generalize es.all _ = a
  generalize decide es.Nodup = b
  generalize decide (es.length ≤ 15) = c
  cases a <;> cases b <;> cases c <;> rfl
set_option maxHeartbeats 2000000 in
set_option maxRecDepth 100000 in
theorem edges_any {w : World} {p : PV} {es : List (Int × Int)} {ws : List Int} {ns : List Nat} (h : Pl w p es ws ns) (hN : 2 ≤ p.nodes ∧ p.nodes ≤ 6) :
    Calls Tryz.prog 141 #[p.val] w fun e w' => e = .returned (.bool (Plan.edgesOk p.nodes es)) ∧ Below w.heap.size w w' := by
  have HX : Hid (Bxd (w.alloc p.obj) w.heap.size p) := bxd_new w p
  have HW : Hid (Below w.heap.size w (w.alloc p.obj)) := fresh _ _
  have HE : Hid (Pr w p.ea p.en es) := h.he
  have HI : Hid (∀ x ∈ es, I64 x.1 ∧ I64 x.2) := h.ei
  have heb := h.eb
  have hen := h.he.1
  clear h
  obtain ⟨N, lanes, room, queue, rounds, every, bag, start, ea, en, ec, wa, wn, wc, na, nn, nc⟩ := p
  simp only [PV.val, PV.obj] at HX HW HE heb hen hN ⊢
  have HN : Hid (2 ≤ N ∧ N ≤ 6) := hN
  clear hN
  rw [Plan.edgesOk_parts, hen]
  by_cases h15 : en ≤ 15
  · have h15' : (en : Int) ≤ 15 := by omega
    rw [decide_eq_true h15, Bool.true_and]
    cases hA : es.all (Plan.goodB N) with
    | false =>
      go_enter Tryz.func141, Tryz.ntmps141
      go_wp2_with (go_at_call 196; refine (econt_any (b := w.heap.size) (N := N) (HE.out.below HW.out) heb HI.out HN.out HX.out.c0).mono ?_; rintro e w1 ⟨rfl, hB1⟩; rw [hA]; have HB1 : Hid (Below w.heap.size w w1) := later HW.out hB1; clear hB1)
      go_ret
      exact ⟨rfl, HB1.out⟩
    | true =>
      obtain ⟨t, ht⟩ : ∃ t, decide es.Nodup = t := ⟨_, rfl⟩
      have HT : Hid (decide es.Nodup = t) := ht
      rw [ht, Bool.true_and]
      clear ht
      go_enter Tryz.func141, Tryz.ntmps141
      go_wp2_with (first | (go_at_call 196; refine (econt_any (b := w.heap.size) (N := N) (HE.out.below HW.out) heb HI.out HN.out HX.out.c0).mono ?_; rintro e w1 ⟨rfl, hB1⟩; rw [hA]; have x1 := (HX.out.below hB1).c1; simp only at x1; have HB1 : Hid (Below w.heap.size w w1) := later HW.out hB1; clear hB1) | (go_at_call 197; refine (differ_any (HE.out.below HB1.out) heb).mono ?_; rintro e w2 ⟨rfl, hB2⟩; rw [HT.out]; have HB2 : Hid (Below w.heap.size w w2) := later HB1.out hB2; clear hB2))
      go_ret
      exact ⟨rfl, HB2.out⟩
  · have h15' : ¬ (en : Int) ≤ 15 := by omega
    rw [decide_eq_false h15]
    go_enter Tryz.func141, Tryz.ntmps141
    go_wp2_with fail
    go_ret
    exact ⟨rfl, HW.out⟩
theorem Plan.may_parts (q : Plan.Num) (es : List (Int × Int)) (ws : List Int) (ns : List Nat) : Plan.may q es ws ns = (Plan.fine q && Plan.edgesOk q.nodes es && (decide ((ws.length : Int) = q.lanes) && Plan.wsOk ws) && (decide ((ns.length : Int) = q.nodes) && ns.all (fun n => decide ((n : Int) = q.nodes)))) := by
  unfold Plan.may
  simp only [Bool.and_assoc]
theorem Plan.fine_nodes {q : Plan.Num} (h : Plan.fine q = true) : 2 ≤ q.nodes ∧ q.nodes ≤ 6 := by
  unfold Plan.fine at h
  simp only [Bool.and_eq_true] at h
  have := h.1.1.1.1.1.1
  unfold Plan.bnd at this
  simpa using this
set_option maxHeartbeats 4000000 in
set_option maxRecDepth 100000 in
theorem check_any {w : World} {p : PV} {es : List (Int × Int)} {ws : List Int} {ns : List Nat} (h : Pl w p es ws ns) :
    Calls Tryz.prog 86 #[p.val] w fun e w' => e = .returned (.int .u16 (Plan.errno (Plan.may p.num es ws ns))) ∧ Below w.heap.size w w' := by
  have HX : Hid (Bxd (w.alloc p.obj) w.heap.size p) := bxd_new w p
  have HW : Hid (Below w.heap.size w (w.alloc p.obj)) := fresh _ _
  have HP : Hid (Pl w p es ws ns) := h
  clear h
  have C1 := fun (u : World) => numbers_any u p
  have C2 := fun (u : World) (hu : Below w.heap.size w u) (hf : 2 ≤ p.nodes ∧ p.nodes ≤ 6) => edges_any (HP.out.below hu) hf
  have C3 := fun (u : World) (hu : Below w.heap.size w u) => weights_any (HP.out.below hu)
  have C4 := fun (u : World) (hu : Below w.heap.size w u) => next_any (HP.out.below hu)
  have HF : Plan.fine p.num = true → 2 ≤ p.nodes ∧ p.nodes ≤ 6 := @Plan.fine_nodes p.num
  obtain ⟨t1, ht1⟩ : ∃ t, Plan.fine p.num = t := ⟨_, rfl⟩
  obtain ⟨t2, ht2⟩ : ∃ t, Plan.edgesOk p.nodes es = t := ⟨_, rfl⟩
  obtain ⟨t3, ht3⟩ : ∃ t, (decide ((ws.length : Int) = p.lanes) && Plan.wsOk ws) = t := ⟨_, rfl⟩
  obtain ⟨t4, ht4⟩ : ∃ t, (decide ((ns.length : Int) = p.nodes) && ns.all (fun n => decide ((n : Int) = p.nodes))) = t := ⟨_, rfl⟩
  have hM : Plan.may p.num es ws ns = (t1 && t2 && t3 && t4) := by
    rw [← ht1, ← ht2, ← ht3, ← ht4]
    exact Plan.may_parts p.num es ws ns
  rw [hM]
  rw [ht1] at C1 HF
  rw [ht2] at C2
  rw [ht3] at C3
  rw [ht4] at C4
  clear ht1 ht2 ht3 ht4 hM
  obtain ⟨N, lanes, room, queue, rounds, every, bag, start, ea, en, ec, wa, wn, wc, na, nn, nc⟩ := p
  simp only [PV.val, PV.obj] at HX HW C1 C2 C3 C4 HF ⊢
  have D1 : Hid _ := C1
  have D2 : Hid _ := C2
  have D3 : Hid _ := C3
  have D4 : Hid _ := C4
  have DF : Hid _ := HF
  clear C1 C2 C3 C4 HF
  cases t1 with
  | false =>
    go_enter Tryz.func86, Tryz.ntmps86
    go_wp2_with (go_at_call 140; refine Calls.mono (D1.out _) ?_; rintro e w1 ⟨rfl, hB⟩; have HX1 : Hid (Bxd w1 w.heap.size ⟨N, lanes, room, queue, rounds, every, bag, start, ea, en, ec, wa, wn, wc, na, nn, nc⟩) := HX.out.below hB; obtain ⟨x1_0, x1_1, x1_2, x1_3, x1_4, x1_5, x1_6, x1_7, x1_8, x1_9, x1_10⟩ := HX.out.below hB; simp only at x1_0 x1_1 x1_2 x1_3 x1_4 x1_5 x1_6 x1_7 x1_8 x1_9 x1_10; have HB1 : Hid (Below w.heap.size w w1) := later HW.out hB; clear hB)
    go_ret
    exact ⟨rfl, HB1.out⟩
  | true =>
    have hN := DF.out rfl
    have HN : Hid (2 ≤ N ∧ N ≤ 6) := hN
    clear hN
    cases t2 with
    | false =>
      go_enter Tryz.func86, Tryz.ntmps86
      go_wp2_with (first | (go_at_call 141; refine Calls.mono (D2.out _ HB1.out HN.out) ?_; rintro e w2 ⟨rfl, hB⟩; have HX2 : Hid (Bxd w2 w.heap.size ⟨N, lanes, room, queue, rounds, every, bag, start, ea, en, ec, wa, wn, wc, na, nn, nc⟩) := HX1.out.below hB; obtain ⟨x2_0, x2_1, x2_2, x2_3, x2_4, x2_5, x2_6, x2_7, x2_8, x2_9, x2_10⟩ := HX1.out.below hB; simp only at x2_0 x2_1 x2_2 x2_3 x2_4 x2_5 x2_6 x2_7 x2_8 x2_9 x2_10; have HB2 : Hid (Below w.heap.size w w2) := later HB1.out hB; clear hB) | (go_at_call 140; refine Calls.mono (D1.out _) ?_; rintro e w1 ⟨rfl, hB⟩; have HX1 : Hid (Bxd w1 w.heap.size ⟨N, lanes, room, queue, rounds, every, bag, start, ea, en, ec, wa, wn, wc, na, nn, nc⟩) := HX.out.below hB; obtain ⟨x1_0, x1_1, x1_2, x1_3, x1_4, x1_5, x1_6, x1_7, x1_8, x1_9, x1_10⟩ := HX.out.below hB; simp only at x1_0 x1_1 x1_2 x1_3 x1_4 x1_5 x1_6 x1_7 x1_8 x1_9 x1_10; have HB1 : Hid (Below w.heap.size w w1) := later HW.out hB; clear hB))
      go_ret
      exact ⟨rfl, HB2.out⟩
    | true =>
      cases t3 with
      | false =>
        go_enter Tryz.func86, Tryz.ntmps86
        go_wp2_with (first | (go_at_call 142; refine Calls.mono (D3.out _ HB2.out) ?_; rintro e w3 ⟨rfl, hB⟩; have HX3 : Hid (Bxd w3 w.heap.size ⟨N, lanes, room, queue, rounds, every, bag, start, ea, en, ec, wa, wn, wc, na, nn, nc⟩) := HX2.out.below hB; obtain ⟨x3_0, x3_1, x3_2, x3_3, x3_4, x3_5, x3_6, x3_7, x3_8, x3_9, x3_10⟩ := HX2.out.below hB; simp only at x3_0 x3_1 x3_2 x3_3 x3_4 x3_5 x3_6 x3_7 x3_8 x3_9 x3_10; have HB3 : Hid (Below w.heap.size w w3) := later HB2.out hB; clear hB) | (go_at_call 141; refine Calls.mono (D2.out _ HB1.out HN.out) ?_; rintro e w2 ⟨rfl, hB⟩; have HX2 : Hid (Bxd w2 w.heap.size ⟨N, lanes, room, queue, rounds, every, bag, start, ea, en, ec, wa, wn, wc, na, nn, nc⟩) := HX1.out.below hB; obtain ⟨x2_0, x2_1, x2_2, x2_3, x2_4, x2_5, x2_6, x2_7, x2_8, x2_9, x2_10⟩ := HX1.out.below hB; simp only at x2_0 x2_1 x2_2 x2_3 x2_4 x2_5 x2_6 x2_7 x2_8 x2_9 x2_10; have HB2 : Hid (Below w.heap.size w w2) := later HB1.out hB; clear hB) | (go_at_call 140; refine Calls.mono (D1.out _) ?_; rintro e w1 ⟨rfl, hB⟩; have HX1 : Hid (Bxd w1 w.heap.size ⟨N, lanes, room, queue, rounds, every, bag, start, ea, en, ec, wa, wn, wc, na, nn, nc⟩) := HX.out.below hB; obtain ⟨x1_0, x1_1, x1_2, x1_3, x1_4, x1_5, x1_6, x1_7, x1_8, x1_9, x1_10⟩ := HX.out.below hB; simp only at x1_0 x1_1 x1_2 x1_3 x1_4 x1_5 x1_6 x1_7 x1_8 x1_9 x1_10; have HB1 : Hid (Below w.heap.size w w1) := later HW.out hB; clear hB))
        go_ret
        exact ⟨rfl, HB3.out⟩
      | true =>
        cases t4 with
        | false =>
          go_enter Tryz.func86, Tryz.ntmps86
          go_wp2_with (first | (go_at_call 143; refine Calls.mono (D4.out _ HB3.out) ?_; rintro e w4 ⟨rfl, hB⟩; have HX4 : Hid (Bxd w4 w.heap.size ⟨N, lanes, room, queue, rounds, every, bag, start, ea, en, ec, wa, wn, wc, na, nn, nc⟩) := HX3.out.below hB; obtain ⟨x4_0, x4_1, x4_2, x4_3, x4_4, x4_5, x4_6, x4_7, x4_8, x4_9, x4_10⟩ := HX3.out.below hB; simp only at x4_0 x4_1 x4_2 x4_3 x4_4 x4_5 x4_6 x4_7 x4_8 x4_9 x4_10; have HB4 : Hid (Below w.heap.size w w4) := later HB3.out hB; clear hB) | (go_at_call 142; refine Calls.mono (D3.out _ HB2.out) ?_; rintro e w3 ⟨rfl, hB⟩; have HX3 : Hid (Bxd w3 w.heap.size ⟨N, lanes, room, queue, rounds, every, bag, start, ea, en, ec, wa, wn, wc, na, nn, nc⟩) := HX2.out.below hB; obtain ⟨x3_0, x3_1, x3_2, x3_3, x3_4, x3_5, x3_6, x3_7, x3_8, x3_9, x3_10⟩ := HX2.out.below hB; simp only at x3_0 x3_1 x3_2 x3_3 x3_4 x3_5 x3_6 x3_7 x3_8 x3_9 x3_10; have HB3 : Hid (Below w.heap.size w w3) := later HB2.out hB; clear hB) | (go_at_call 141; refine Calls.mono (D2.out _ HB1.out HN.out) ?_; rintro e w2 ⟨rfl, hB⟩; have HX2 : Hid (Bxd w2 w.heap.size ⟨N, lanes, room, queue, rounds, every, bag, start, ea, en, ec, wa, wn, wc, na, nn, nc⟩) := HX1.out.below hB; obtain ⟨x2_0, x2_1, x2_2, x2_3, x2_4, x2_5, x2_6, x2_7, x2_8, x2_9, x2_10⟩ := HX1.out.below hB; simp only at x2_0 x2_1 x2_2 x2_3 x2_4 x2_5 x2_6 x2_7 x2_8 x2_9 x2_10; have HB2 : Hid (Below w.heap.size w w2) := later HB1.out hB; clear hB) | (go_at_call 140; refine Calls.mono (D1.out _) ?_; rintro e w1 ⟨rfl, hB⟩; have HX1 : Hid (Bxd w1 w.heap.size ⟨N, lanes, room, queue, rounds, every, bag, start, ea, en, ec, wa, wn, wc, na, nn, nc⟩) := HX.out.below hB; obtain ⟨x1_0, x1_1, x1_2, x1_3, x1_4, x1_5, x1_6, x1_7, x1_8, x1_9, x1_10⟩ := HX.out.below hB; simp only at x1_0 x1_1 x1_2 x1_3 x1_4 x1_5 x1_6 x1_7 x1_8 x1_9 x1_10; have HB1 : Hid (Below w.heap.size w w1) := later HW.out hB; clear hB))
          go_ret
          exact ⟨rfl, HB4.out⟩
        | true =>
          go_enter Tryz.func86, Tryz.ntmps86
          go_wp2_with (first | (go_at_call 143; refine Calls.mono (D4.out _ HB3.out) ?_; rintro e w4 ⟨rfl, hB⟩; have HX4 : Hid (Bxd w4 w.heap.size ⟨N, lanes, room, queue, rounds, every, bag, start, ea, en, ec, wa, wn, wc, na, nn, nc⟩) := HX3.out.below hB; obtain ⟨x4_0, x4_1, x4_2, x4_3, x4_4, x4_5, x4_6, x4_7, x4_8, x4_9, x4_10⟩ := HX3.out.below hB; simp only at x4_0 x4_1 x4_2 x4_3 x4_4 x4_5 x4_6 x4_7 x4_8 x4_9 x4_10; have HB4 : Hid (Below w.heap.size w w4) := later HB3.out hB; clear hB) | (go_at_call 142; refine Calls.mono (D3.out _ HB2.out) ?_; rintro e w3 ⟨rfl, hB⟩; have HX3 : Hid (Bxd w3 w.heap.size ⟨N, lanes, room, queue, rounds, every, bag, start, ea, en, ec, wa, wn, wc, na, nn, nc⟩) := HX2.out.below hB; obtain ⟨x3_0, x3_1, x3_2, x3_3, x3_4, x3_5, x3_6, x3_7, x3_8, x3_9, x3_10⟩ := HX2.out.below hB; simp only at x3_0 x3_1 x3_2 x3_3 x3_4 x3_5 x3_6 x3_7 x3_8 x3_9 x3_10; have HB3 : Hid (Below w.heap.size w w3) := later HB2.out hB; clear hB) | (go_at_call 141; refine Calls.mono (D2.out _ HB1.out HN.out) ?_; rintro e w2 ⟨rfl, hB⟩; have HX2 : Hid (Bxd w2 w.heap.size ⟨N, lanes, room, queue, rounds, every, bag, start, ea, en, ec, wa, wn, wc, na, nn, nc⟩) := HX1.out.below hB; obtain ⟨x2_0, x2_1, x2_2, x2_3, x2_4, x2_5, x2_6, x2_7, x2_8, x2_9, x2_10⟩ := HX1.out.below hB; simp only at x2_0 x2_1 x2_2 x2_3 x2_4 x2_5 x2_6 x2_7 x2_8 x2_9 x2_10; have HB2 : Hid (Below w.heap.size w w2) := later HB1.out hB; clear hB) | (go_at_call 140; refine Calls.mono (D1.out _) ?_; rintro e w1 ⟨rfl, hB⟩; have HX1 : Hid (Bxd w1 w.heap.size ⟨N, lanes, room, queue, rounds, every, bag, start, ea, en, ec, wa, wn, wc, na, nn, nc⟩) := HX.out.below hB; obtain ⟨x1_0, x1_1, x1_2, x1_3, x1_4, x1_5, x1_6, x1_7, x1_8, x1_9, x1_10⟩ := HX.out.below hB; simp only at x1_0 x1_1 x1_2 x1_3 x1_4 x1_5 x1_6 x1_7 x1_8 x1_9 x1_10; have HB1 : Hid (Below w.heap.size w w1) := later HW.out hB; clear hB))
          go_ret
          exact ⟨rfl, HB4.out⟩
end Go.Proofs.YtniicgbkeifnjaaGreatDoor
namespace Go.Proofs.YtniicgbkeifnjaaGreatDoor
open Go.ChangeShapes Go.WideShapes Go.ChangeAt Go.RowKit
set_option linter.unusedVariables false
set_option maxRecDepth 100000
namespace Plan
theorem place_in {x : Int} : ∀ (l : List Int) (k : Nat), Asc l → x ∈ l → place x l k = ((k + l.countP (fun y => decide (y < x)) : Nat) : Int) + 1
  | [], k, _, h => by simp at h
  | y :: r, k, h1, h2 => by
    obtain ⟨a1, a2⟩ := List.pairwise_cons.1 h1
    unfold place
    by_cases e : y = x
    · subst e
      rw [if_pos rfl]
      have h0 : (y :: r).countP (fun z => decide (z < y)) = 0 := by
        rw [List.countP_eq_zero]
        intro z hz
        rcases List.mem_cons.1 hz with e | e
        · subst e; simp
        · have := a1 z e
          simp; omega
      rw [h0, Nat.add_zero]
    · have h3 : x ∈ r := by
        rcases List.mem_cons.1 h2 with e2 | e2
        · exact absurd e2.symm e
        · exact e2
      have h4 := a1 x h3
      rw [if_neg e, place_in r (k + 1) a2 h3, List.countP_cons_of_pos (by simpa using h4)]
      omega
theorem place_out {x : Int} : ∀ (l : List Int) (k : Nat), x ∉ l → place x l k = -1
  | [], k, _ => rfl
  | y :: r, k, h => by
    unfold place
    rw [if_neg (fun e => h (by rw [e]; exact List.mem_cons_self)), place_out r (k + 1) (fun e => h (List.mem_cons_of_mem _ e))]
end Plan
theorem search_any {w : World} {a : Option Addr} {n c : Nat} {l : List Int} (h : Zr w a n l) (ha : Plan.Asc l) (x : Int) (hn : n ≤ 8796093022208) :
    Calls Tryz.prog 156 #[.slice a n c, .int .i64 x] w fun e w' => ∃ (t : Nat) (b : Bool), e = .returned (.tuple #[.int .i64 t, .bool b]) ∧ t ≤ n ∧ Plan.place x l 0 = (if b then (t : Int) + 1 else -1) ∧ Below w.heap.size w w' := by
  have hl := h.1
  rcases h.2.2 with h0 | ⟨b, off, rfl, hlt, hc⟩
  · subst h0
    have he : l = [] := List.length_eq_zero_iff.1 hl
    subst he
    refine (Any.slices_BinarySearch_int_empty Tryz.laysNm225 a c x w).mono ?_
    rintro e w' ⟨rfl, rfl⟩
    exact ⟨0, false, rfl, Nat.le_refl _, rfl, Below.refl _ _⟩
  · have et : l.take n = l := List.take_of_length_le (by omega)
    have hS := Any.slices_BinarySearch_int Tryz.laysNm225 b off n c l x w (by omega) (by omega) (fun j hj => hc j (by omega)) (by rw [et]; exact ha.imp (fun h => Int.le_of_lt h))
    rw [et] at hS
    refine hS.mono ?_
    rintro e w' ⟨rfl, q, rfl⟩
    refine ⟨_, _, rfl, ?_, ?_, drewN_below w q⟩
    · have := List.countP_le_length (l := l) (p := fun y => decide (y < x))
      omega
    · by_cases hx : x ∈ l
      · have e : l.contains x = true := by simpa using hx
        rw [e, Plan.place_in l 0 ha hx, Nat.zero_add]
        rfl
      · have e : l.contains x = false := by simpa using hx
        rw [e, Plan.place_out l 0 hx]
        rfl
set_option maxHeartbeats 2000000 in
set_option maxRecDepth 100000 in
theorem port_any {w : World} {p : PV} {es : List (Int × Int)} {ws : List Int} {ns : List Nat} (h : Pl w p es ws ns) (v u : Int) :
    Calls Tryz.prog 95 #[p.val, .int .i64 v, .int .i64 u] w fun e w' => e = .returned (.int .i64 (Plan.port es v u)) ∧ Below w.heap.size w w' := by
  have HP : Hid (Pl w p es ws ns) := h
  have heb : es.length ≤ 8796093022208 := by have := h.eb; have := h.he.1; omega
  clear h
  unfold PV.val
  have hbl := Plan.bes_len es v
  have hba := Plan.bes_asc es v
  obtain ⟨l, hl⟩ : ∃ l, Plan.bes es v = l := ⟨_, rfl⟩
  obtain ⟨z, hz⟩ : ∃ z, Plan.port es v u = z := ⟨_, rfl⟩
  have hpo : z = Plan.place u l 0 := by rw [← hz, ← hl]; rfl
  rw [hz]
  rw [hl] at hbl hba
  have HPO : Hid (z = Plan.place u l 0) := hpo
  have HL : Hid (Plan.bes es v = l) := hl
  have HA : Hid (Plan.Asc l) := hba
  clear hl hz hpo hba
  go_enter Tryz.func95, Tryz.ntmps95
  go_wp2_with fail
  refine (beside_raw (p := p) (HP.out.below (fresh _ _)) v).mono ?_
  rintro e w2 ⟨v2, rfl, hown2, hB2⟩
  rw [HL.out] at hown2
  obtain ⟨a2, cap2, rfl, hz2, _⟩ := zr_of_owns hown2
  have HB : Hid (Below w.heap.size w w2) := later (fresh _ _) hB2
  have HZ : Hid (Zr w2 a2 l.length l) := hz2
  clear hz2 hown2 hB2
  go_wp2_with fail
  refine (search_any HZ.out HA.out u (by omega)).mono ?_
  rintro e w3 ⟨t, b, rfl, ht, hpl, hB3⟩
  rw [← HPO.out] at hpl
  have HB3 : Hid (Below w.heap.size w w3) := later HB.out hB3
  clear hB3
  cases b with
  | true =>
    have hz2 : z = (t : Int) + 1 := by simpa using hpl
    have HZ2 : Hid (z = (t : Int) + 1) := hz2
    clear hz2
    clear hpl
    go_wp2_with fail
    go_ret
    exact ⟨by rw [HZ2.out]; rfl, HB3.out⟩
  | false =>
    have hz2 : z = -1 := by simpa using hpl
    have HZ2 : Hid (z = -1) := hz2
    clear hz2
    clear hpl
    go_wp2_with fail
    go_ret
    exact ⟨by rw [HZ2.out]; rfl, HB3.out⟩
set_option maxHeartbeats 4000000 in
set_option maxRecDepth 100000 in
theorem hops_own {w : World} {p : PV} {es : List (Int × Int)} {ws : List Int} {ns : List Nat} (h : Pl w p es ws ns) :
    Calls Tryz.prog 149 #[p.val] w fun e w' => ∃ u, e = .returned u ∧ w'.ownsRow w.heap.size 229 2 u (Plan.hops p.nodes es).length (pcells (Plan.hops p.nodes es)) ∧ Below w.heap.size w w' := by
  have HP : Hid (Pl w p es ws ns) := h
  have hqi := h.qi.1
  clear h
  have HX : Hid (Bxd (w.alloc p.obj) w.heap.size p) := bxd_new w p
  have HW : Hid (Below w.heap.size w (w.alloc p.obj) ∧ (w.alloc p.obj).heap.size = w.heap.size + 1) := ⟨fresh _ _, by simp⟩
  simp only [PV.val, PV.obj] at HX HW ⊢
  go_enter Tryz.func149, Tryz.ntmps149
  go_wp2_with fail
  generalize w.alloc _ = W1 at HX HW ⊢
  obtain ⟨U, hU⟩ : ∃ U, min p.nodes 6 = U := ⟨_, rfl⟩
  have HU : Hid (min p.nodes 6 = U) := hU
  rw [hU]
  clear hU hqi
  go_loopw [3, 10] (fun u i wr => ∃ k : Nat, k ≤ Plan.upto p.nodes ∧ i = .int .i64 k ∧ wr.ownsRow W1.heap.size 229 2 u (Plan.hopsTo es k).length (pcells (Plan.hopsTo es k)) ∧ Below W1.heap.size W1 wr) (fun _ i _ => Plan.upto p.nodes - (intOf i).toNat)
  case atStart => exact ⟨0, Nat.zero_le _, rfl, World.ownsRow_nil _ _ _ _, Below.refl _ _⟩
  case round =>
    obtain ⟨k, hk, rfl, hO, hB⟩ := hrel
    have HO : Hid (wr.ownsRow W1.heap.size 229 2 u3 (Plan.hopsTo es k).length (pcells (Plan.hopsTo es k))) := hO
    have HB : Hid (Below W1.heap.size W1 wr) := hB
    have hx := HX.out.below hB
    have hup : Plan.upto p.nodes ≤ 6 := by unfold Plan.upto; omega
    clear hO hB
    by_cases hkn : k < Plan.upto p.nodes
    · have hkU : (k : Int) < U := by have := HU.out; unfold Plan.upto at hkn; omega
      have HK : Hid (k < Plan.upto p.nodes ∧ Plan.upto p.nodes ≤ 6) := ⟨hkn, hup⟩
      obtain ⟨hc0, hc1, hc2, hc3, hc4, hc5, hc6, hc7, hc8, hc9, hc10⟩ := hx
      have hk6 : k < 6 := by omega
      clear hkn hup hk
      have hsz := HB.out.size
      obtain ⟨l, hl⟩ : ∃ l, Plan.bes es (k : Int) = l := ⟨_, rfl⟩
      have HL : Hid (Plan.bes es (k : Int) = l) := hl
      have HA : Hid (Plan.Asc l) := by have := Plan.bes_asc es (k : Int); rw [hl] at this; exact this
      have hbl : l.length ≤ 8796093022208 := by have h1 := Plan.bes_len es (k : Int); have h2 := HP.out.eb; have h3 := HP.out.he.1; rw [hl] at h1; omega
      have HTl : Hid ((Plan.hopsTo es k).length ≤ 6 * k) := Plan.hopsTo_len es k
      clear hl
      go_wp2_with (go_at_call 92; refine (beside_raw (p := p) ((HP.out.below HW.out.1).below HB.out) (k : Int)).mono ?_; rintro e w2 ⟨v2, rfl, hown2, hB2⟩; rw [HL.out] at hown2; obtain ⟨a2, cap2, rfl, hz2, _, _, _, hcap2⟩ := zr_of_owns hown2; have hne2 : ∀ ad, a2 = some ad → u3.ownBlock ≠ some ad.block := apart_of hcap2 HO.out; have HB2 : Hid (Below W1.heap.size W1 w2) := HB.out.trans (hB2.mono hsz); have HZ : Hid (Zr w2 a2 l.length l) := hz2; have HO2 : Hid (w2.ownsRow W1.heap.size 229 2 u3 (Plan.hopsTo es k).length (pcells (Plan.hopsTo es k))) := owns_below HO.out hB2; clear hz2 hown2 hB2 hcap2 hc0 hc1 hc2 hc3 hc4 hc5 hc6 hc7 hc8 hc9 hc10)
      have HNE2 : Hid (∀ ad, a2 = some ad → u3.ownBlock ≠ some ad.block) := hne2
      clear hne2
      go_loopw [3, 17] (fun u i ws => ∃ j : Nat, j ≤ l.length ∧ i = .int .i64 j ∧ ws.ownsRow W1.heap.size 229 2 u (Plan.hopsTo es k ++ Plan.hopsPart l k j).length (pcells (Plan.hopsTo es k ++ Plan.hopsPart l k j)) ∧ Below W1.heap.size W1 ws ∧ Zr ws a2 l.length l ∧ (∀ ad, a2 = some ad → u.ownBlock ≠ some ad.block)) (fun _ i _ => l.length - (intOf i).toNat)
      case atStart => exact ⟨0, Nat.zero_le _, rfl, by rw [Plan.hopsPart_zero, List.append_nil]; exact HO2.out, HB2.out, HZ.out, HNE2.out⟩
      case round =>
        obtain ⟨j, hj, rfl, hO3, hB3, hZ3, hne3⟩ := hrel
        have HO3 : Hid (wr.ownsRow W1.heap.size 229 2 u3 (Plan.hopsTo es k ++ Plan.hopsPart l k j).length (pcells (Plan.hopsTo es k ++ Plan.hopsPart l k j))) := hO3
        have HB3 : Hid (Below W1.heap.size W1 wr) := hB3
        have HZ3 : Hid (Zr wr a2 l.length l) := hZ3
        have HNE : Hid (∀ ad, a2 = some ad → u3.ownBlock ≠ some ad.block) := hne3
        clear hO3 hB3 hZ3 hne3
        have hsz3 := HB3.out.size
        by_cases hjn : j < l.length
        · obtain ⟨b, off, ha, hcell⟩ := HZ3.out.at hjn
          have HNB : Hid (u3.ownBlock ≠ some b) := HNE.out _ ha
          subst ha
          obtain ⟨y, hy⟩ : ∃ y, l.getD j 0 = y := ⟨_, rfl⟩
          have HY : Hid (l.getD j 0 = y) := hy
          rw [hy] at hcell
          clear hy
          cases hb : Plan.bnd y 0 5 with
          | true =>
            have h12 : 0 ≤ y ∧ y ≤ 5 := by unfold Plan.bnd at hb; simpa using hb
            have hpl : (Plan.hopsPart l k j).length ≤ 6 := Plan.hopsPart_len k j HA.out
            have HS : Hid ((Plan.hopsTo es k ++ Plan.hopsPart l k j) ++ [((k : Int), y)] = Plan.hopsTo es k ++ Plan.hopsPart l k (j + 1)) := by
              show _ = _
              rw [Plan.hopsPart_hit hjn (by rw [HY.out]; exact h12.1) (by rw [HY.out]; omega), List.append_assoc, HY.out]
            have HLL : Hid ((Plan.hopsTo es k ++ Plan.hopsPart l k j).length ≤ 100) := by
              show _ ≤ _
              have := HTl.out
              have := HK.out
              rw [List.length_append]
              omega
            clear hpl h12
            go_wp2_with (first | (go_at_call 194; refine (within_any y 0 5 _).mono ?_; rintro e w' ⟨rfl, hq⟩; obtain rfl := hq.symm; rw [hb]) | (at_builtin; refine wpList_append_p' rfl _ _ 226 229 rfl Tryz.underlying226 infoH W1.heap.size u3 (Plan.hopsTo es k ++ Plan.hopsPart l k j) rfl (owns_below HO3.out (fresh _ _)) (by simp; omega) _ 1 _ [((k : Int), y)] rfl (pr_one wr k y _) (fun e => by cases e) (by have := HLL.out; omega) _ HS.out ?_; intro v4 w4 hown4 hB4 hg4 hat4))
            go_roundw
            case rel =>
              have R3 : Zr w4 (some ⟨b, off, none⟩) l.length l := (HZ3.out.below (fresh _ _)).grown hg4 (fun ad e => by cases e; exact HNB.out)
              have R4 : ∀ ad, some (⟨b, off, none⟩ : Addr) = some ad → v4.ownBlock ≠ some ad.block := by
                intro ad e hv
                cases e
                rcases hat4 with h | h
                · exact HNB.out (h.symm.trans hv)
                · rw [h] at hv
                  have := cell_lt hcell
                  simp only [World.size_alloc, Option.some.injEq] at hv
                  simp only at this
                  omega
              first | exact ⟨j + 1, by omega, by go_num, hown4, (HB3.out.alloc hsz3 _).trans hB4, R3, R4⟩ | ((repeat apply Exists.intro); exact ⟨⟨j + 1, by omega, by go_num, hown4, (HB3.out.alloc hsz3 _).trans hB4, R3, R4⟩, rfl⟩)
            case measure => simp [intOf]; omega
          | false =>
            have h12 : ¬ (0 ≤ y ∧ y < 6) := fun h => by
              have : Plan.bnd y 0 5 = true := by unfold Plan.bnd; simp; omega
              rw [hb] at this
              cases this
            have HS : Hid (Plan.hopsPart l k (j + 1) = Plan.hopsPart l k j) := Plan.hopsPart_miss hjn (by rw [HY.out]; exact h12)
            clear h12
            go_wp2_with (go_at_call 194; refine (within_any y 0 5 _).mono ?_; rintro e w' ⟨rfl, hq⟩; obtain rfl := hq.symm; rw [hb])
            go_roundw
            case rel =>
              have R1 := HO3.out
              rw [← HS.out] at R1
              first | exact ⟨j + 1, by omega, by go_num, R1, HB3.out, HZ3.out, HNE.out⟩ | ((repeat apply Exists.intro); exact ⟨⟨j + 1, by omega, by go_num, R1, HB3.out, HZ3.out, HNE.out⟩, rfl⟩)
            case measure => simp [intOf]; omega
        · obtain rfl : j = l.length := by omega
          have HS : Hid (Plan.hopsTo es k ++ Plan.hopsPart l k l.length = Plan.hopsTo es (k + 1)) := by
            show _ = _
            rw [Plan.hopsTo_succ, ← Plan.hopsPart_all, HL.out]
          go_wp2_with fail
          go_roundw
          case rel =>
            have R1 := HO3.out
            rw [HS.out] at R1
            first | exact ⟨k + 1, by have := HK.out; omega, by go_num, R1, HB3.out⟩ | ((repeat apply Exists.intro); exact ⟨⟨k + 1, by have := HK.out; omega, by go_num, R1, HB3.out⟩, rfl⟩)
          case measure => have := HK.out; simp [intOf]; omega
    · obtain rfl : k = Plan.upto p.nodes := by omega
      have HR : Hid (∃ u, Ending.returned u3 = Ending.returned u ∧ wr.ownsRow w.heap.size 229 2 u (Plan.hops p.nodes es).length (pcells (Plan.hops p.nodes es)) ∧ Below w.heap.size w wr) := by
        refine ⟨_, rfl, owns_mono HO.out (by have := HW.out.2; omega), HW.out.1.trans (HB.out.mono (by have := HW.out.2; omega))⟩
      have hno : ¬ ((Plan.upto p.nodes : Nat) : Int) < U := by have := HU.out; unfold Plan.upto; omega
      obtain ⟨K, hK⟩ : ∃ K, Plan.upto p.nodes = K := ⟨_, rfl⟩
      rw [hK] at hno ⊢
      clear hx hup hkn hk HO hK
      go_wp2_with fail
      go_ret
      exact HR.out
end Go.Proofs.YtniicgbkeifnjaaGreatDoor
namespace Go.Proofs.YtniicgbkeifnjaaGreatDoor.Route
set_option linter.unusedVariables false
set_option maxRecDepth 100000
def nxt (N : Nat) (l : List Nat) (k w : Nat) : Int := if k < l.length ∧ l.getD k 0 % 4 = 0 then ((l.getD k 0 / 4 % N : Nat) : Int) else (w : Int)
def mkRow (N : Nat) (l : List Nat) (v : Nat) : List Int := (List.range N).map fun w => nxt N l (N * v + w) w
def mkRows (N : Nat) (l : List Nat) : List (List Int) := (List.range N).map (mkRow N l)
theorem mkRow_len (N : Nat) (l : List Nat) (v : Nat) : (mkRow N l v).length = N := by simp [mkRow]
theorem mkRows_len (N : Nat) (l : List Nat) : (mkRows N l).length = N := by simp [mkRows]
theorem mkRow_take {N : Nat} {l : List Nat} {v j : Nat} (h : j < N) : (mkRow N l v).take j ++ [nxt N l (N * v + j) j] = (mkRow N l v).take (j + 1) := by
  have hl : j < (mkRow N l v).length := by rw [mkRow_len]; exact h
  rw [List.take_succ_eq_append_getElem hl]
  congr 2
  simp [mkRow]
theorem mkRows_take {N : Nat} {l : List Nat} {t : Nat} (h : t < N) : (mkRows N l).take t ++ [mkRow N l t] = (mkRows N l).take (t + 1) := by
  have hl : t < (mkRows N l).length := by rw [mkRows_len]; exact h
  rw [List.take_succ_eq_append_getElem hl]
  congr 2
  simp [mkRows]
theorem nxt_b {N : Nat} (hN : 1 ≤ N) (hN6 : N ≤ 6) (l : List Nat) (k : Nat) {w : Nat} (hw : w < N) : 0 ≤ nxt N l k w ∧ nxt N l k w < (N : Int) := by
  unfold nxt
  split
  · have := Nat.mod_lt (l.getD k 0 / 4) (show N > 0 by omega)
    omega
  · omega
theorem mkRows_num {N : Nat} (hN : 1 ≤ N) (hN6 : N ≤ 6) (l : List Nat) : ∀ r ∈ mkRows N l, ∀ x ∈ r, 0 ≤ x ∧ x < (N : Int) := by
  intro r hr x hx
  unfold mkRows at hr
  obtain ⟨v, _, rfl⟩ := List.mem_map.1 hr
  unfold mkRow at hx
  obtain ⟨w, hw, rfl⟩ := List.mem_map.1 hx
  exact nxt_b hN hN6 l _ (List.mem_range.1 hw)
def fineB (N : Nat) (es : List (Int × Int)) (rs : List (List Int)) : Bool := ((List.range N).all fun v => (List.range N).all fun w => decide (v = w) || !(go es rs (w : Int) (N - 1) (v : Int)).isEmpty) && (peel (rowsOf N rs (Plan.hops (N : Int) es)) 12 (List.range (rowsOf N rs (Plan.hops (N : Int) es)).length)).isEmpty
theorem fine_not {N : Nat} {es : List (Int × Int)} {rs : List (List Int)} (h : fineB N es rs = true) : ¬ Bad (N : Int) es rs := by
  unfold fineB at h
  rw [Bool.and_eq_true] at h
  obtain ⟨h1, h2⟩ := h
  rintro (⟨v, w, hv, hw, hne, h3⟩ | ⟨i, hi⟩)
  · rw [List.all_eq_true] at h1
    have h4 := h1 v (List.mem_range.2 (by omega))
    rw [List.all_eq_true] at h4
    have h5 := h4 w (List.mem_range.2 (by omega))
    rw [Int.toNat_natCast] at h3
    simp [hne, h3] at h5
  · rw [Int.toNat_natCast] at hi
    exact calm (List.isEmpty_iff.1 h2) i hi
def q_route (ps : List Int) : Bool := decide (ps.length = 0) || (fineB (ps.length + 1) (Tree.edges ps) (Tree.rows ps) && ((List.range (ps.length + 1)).all fun v => (List.range (ps.length + 1)).all fun w => go (Tree.edges ps) (Tree.rows ps) (w : Int) ps.length (v : Int) == Tree.path ps v w))
set_option maxRecDepth 1000000 in
set_option maxHeartbeats 4000000 in
theorem trees_all : (Tree.all5.all q_route) = true := by decide +kernel
theorem tree_fine {ps : List Int} (ho : Tree.layOk ps = true) : ¬ Bad ((ps.length + 1 : Nat) : Int) (Tree.edges ps) (Tree.rows ps) ∧ ∀ v w : Nat, v ≤ ps.length → w ≤ ps.length → go (Tree.edges ps) (Tree.rows ps) (w : Int) ps.length (v : Int) = Tree.path ps v w := by
  unfold Tree.layOk at ho
  rw [Bool.and_eq_true, decide_eq_true_eq] at ho
  have h := List.all_eq_true.1 trees_all ps (Tree.mem_all5 ho.1)
  unfold q_route at h
  simp only [Bool.or_eq_true, Bool.and_eq_true, decide_eq_true_eq, List.all_eq_true] at h
  rcases h with h | ⟨h1, h2⟩
  · exact absurd h ho.2
  · exact ⟨fine_not h1, fun v w hv hw => eq_of_beq (h2 v (List.mem_range.2 (by omega)) w (List.mem_range.2 (by omega)))⟩
end Go.Proofs.YtniicgbkeifnjaaGreatDoor.Route
