/-
  Package plan, as it landed: edges, and Check. Conditions: none but that the plan's rows are led to.
-/
import Derived.Test.YtipdcpekepiphaaPlanDif
namespace Go.Proofs.Ytipdcpekepiphaa
open Go.ChangeShapes Go.WideShapes Go.ChangeAt Go.RowKit
set_option linter.unusedVariables false

set_option maxHeartbeats 2000000 in
set_option maxRecDepth 100000 in
theorem differ_any {w : World} {a : Option Addr} {n c : Nat} {es : List (Int × Int)} (h : Pr w a n es) (hn : n ≤ 8796093022208) :
    Calls Try.prog 43 #[.slice a n c] w fun e w' => e = .returned (.bool (decide es.Nodup)) ∧ Below w.heap.size w w' := by
  have HC : Hid (Calls Try.prog 48 #[.slice a n c] w fun e w' => ∃ v, e = .returned v ∧ w'.ownsRow w.heap.size 59 2 v es.length (pcells es) ∧ Below w.heap.size w w') := by
    cases a with
    | none =>
      have h0 : n = 0 := by
        rcases h.2.2 with h0 | ⟨b, off, e, _⟩
        · exact h0
        · cases e
      have he : es = [] := List.length_eq_zero_iff.1 (h.1.trans h0)
      refine (clone_nil w n c).mono ?_
      rintro e w' ⟨rfl, rfl⟩
      subst he
      exact ⟨_, rfl, World.ownsRow_nil _ _ _ _, Below.refl _ _⟩
    | some ad => exact clone_pr h hn
  have hln := h.1
  have HL : Hid (es.length ≤ 8796093022208) := by show _ ≤ _; omega
  clear h
  go_enter Try.func43, Try.ntmps43
  go_wp2_with fail
  refine Calls.mono HC.out ?_
  rintro e w1 ⟨v, rfl, ho, hB⟩
  have HO : Hid (w1.ownsRow w.heap.size 59 2 v es.length (pcells es)) := ho
  have HB : Hid (Below w.heap.size w w1) := hB
  clear ho hB
  go_wp2_with fail
  refine (sortE_own HO.out HL.out).mono ?_
  rintro e w2 ⟨rfl, l', hp, hso, ho2, hB2⟩
  have HO2 : Hid (w2.ownsRow w.heap.size 59 2 v l'.length (pcells l')) := ho2
  have HB2 : Hid (Below w.heap.size w w2) := HB.out.trans hB2
  have HN : Hid (Plan.Adj l' ↔ es.Nodup) := (Plan.adj_nodup hso).trans hp.nodup_iff
  have HL2 : Hid (l'.length = n) := hp.length_eq.trans hln
  clear hp hso ho2 hB2
  go_wp2_with fail
  refine (compactE_own HO2.out (by have := HL2.out; omega)).mono ?_
  rintro e w3 ⟨a3, m, cap3, rfl, hm, hB3⟩
  rw [HL2.out] at hm
  have HM : Hid (m = n ↔ es.Nodup) := hm.trans HN.out
  have HB3 : Hid (Below w.heap.size w w3) := HB2.out.trans hB3
  clear hm hB3
  by_cases hq : m = n
  · have hd : decide es.Nodup = true := decide_eq_true (HM.out.1 hq)
    have HD : Hid (decide es.Nodup = true) := hd
    have hq' : ((m : Int) == n) = true := by rw [beq_iff_eq]; omega
    clear hd hq
    go_wp2_with fail
    go_ret
    exact ⟨by rw [HD.out]; rfl, HB3.out⟩
  · have hd : decide es.Nodup = false := decide_eq_false (fun h => hq (HM.out.2 h))
    have HD : Hid (decide es.Nodup = false) := hd
    have hq' : ((m : Int) == n) = false := by rw [beq_eq_false_iff_ne]; omega
    clear hd hq
    go_wp2_with fail
    go_ret
    exact ⟨by rw [HD.out]; rfl, HB3.out⟩
theorem Plan.edgesOk_parts (N : Int) (es : List (Int × Int)) : Plan.edgesOk N es = (decide (es.length ≤ 15) && es.all (Plan.goodB N) && decide es.Nodup) := by
  have h : es.all (Plan.goodB N) = es.all (fun e => decide (0 ≤ e.1) && decide (e.1 < e.2) && decide (e.2 < N)) := rfl
  rw [h]
  unfold Plan.edgesOk
  generalize es.all _ = a
  generalize decide es.Nodup = b
  generalize decide (es.length ≤ 15) = c
  cases a <;> cases b <;> cases c <;> rfl
set_option maxHeartbeats 2000000 in
set_option maxRecDepth 100000 in
theorem edges_any {w : World} {p : PV} {es : List (Int × Int)} {ws : List Int} {ns : List Nat} (h : Pl w p es ws ns) (hN : 2 ≤ p.nodes ∧ p.nodes ≤ 6) :
    Calls Try.prog 35 #[p.val] w fun e w' => e = .returned (.bool (Plan.edgesOk p.nodes es)) ∧ Below w.heap.size w w' := by
  have HX : Hid (Bxd (w.alloc p.obj) w.heap.size p) := bxd_new w p
  have HW : Hid (Below w.heap.size w (w.alloc p.obj)) := fresh _ _
  have HE : Hid (Pr w p.ea p.en es) := h.he
  have HI : Hid (∀ x ∈ es, I64 x.1 ∧ I64 x.2) := h.ei
  have heb := h.eb
  have hen := h.he.1
  clear h
  obtain ⟨N, lanes, room, queue, rounds, every, bag, start, ea, en, ec, wa, wn, wc, na, nn, nc⟩ := p
  simp only [PV.val, PV.obj] at HX HW HE heb hen hN ⊢
  have HN : Hid (2 ≤ N ∧ N ≤ 6) := hN
  clear hN
  rw [Plan.edgesOk_parts, hen]
  by_cases h15 : en ≤ 15
  · have h15' : (en : Int) ≤ 15 := by omega
    rw [decide_eq_true h15, Bool.true_and]
    cases hA : es.all (Plan.goodB N) with
    | false =>
      go_enter Try.func35, Try.ntmps35
      go_wp2_with (go_at_call 42; refine (econt_any (b := w.heap.size) (N := N) (HE.out.below HW.out) heb HI.out HN.out HX.out.c0).mono ?_; rintro e w1 ⟨rfl, hB1⟩; rw [hA]; have HB1 : Hid (Below w.heap.size w w1) := later HW.out hB1; clear hB1)
      go_ret
      exact ⟨rfl, HB1.out⟩
    | true =>
      obtain ⟨t, ht⟩ : ∃ t, decide es.Nodup = t := ⟨_, rfl⟩
      have HT : Hid (decide es.Nodup = t) := ht
      rw [ht, Bool.true_and]
      clear ht
      go_enter Try.func35, Try.ntmps35
      go_wp2_with (first | (go_at_call 42; refine (econt_any (b := w.heap.size) (N := N) (HE.out.below HW.out) heb HI.out HN.out HX.out.c0).mono ?_; rintro e w1 ⟨rfl, hB1⟩; rw [hA]; have x1 := (HX.out.below hB1).c1; simp only at x1; have HB1 : Hid (Below w.heap.size w w1) := later HW.out hB1; clear hB1) | (go_at_call 43; refine (differ_any (HE.out.below HB1.out) heb).mono ?_; rintro e w2 ⟨rfl, hB2⟩; rw [HT.out]; have HB2 : Hid (Below w.heap.size w w2) := later HB1.out hB2; clear hB2))
      go_ret
      exact ⟨rfl, HB2.out⟩
  · have h15' : ¬ (en : Int) ≤ 15 := by omega
    rw [decide_eq_false h15]
    go_enter Try.func35, Try.ntmps35
    go_wp2_with fail
    go_ret
    exact ⟨rfl, HW.out⟩
theorem Plan.may_parts (q : Plan.Num) (es : List (Int × Int)) (ws : List Int) (ns : List Nat) : Plan.may q es ws ns = (Plan.fine q && Plan.edgesOk q.nodes es && (decide ((ws.length : Int) = q.lanes) && Plan.wsOk ws) && (decide ((ns.length : Int) = q.nodes) && ns.all (fun n => decide ((n : Int) = q.nodes)))) := by
  unfold Plan.may
  simp only [Bool.and_assoc]
theorem Plan.fine_nodes {q : Plan.Num} (h : Plan.fine q = true) : 2 ≤ q.nodes ∧ q.nodes ≤ 6 := by
  unfold Plan.fine at h
  simp only [Bool.and_eq_true] at h
  have := h.1.1.1.1.1.1
  unfold Plan.bnd at this
  simpa using this
set_option maxHeartbeats 4000000 in
set_option maxRecDepth 100000 in
theorem check_any {w : World} {p : PV} {es : List (Int × Int)} {ws : List Int} {ns : List Nat} (h : Pl w p es ws ns) :
    Calls Try.prog 22 #[p.val] w fun e w' => e = .returned (.int .u16 (Plan.errno (Plan.may p.num es ws ns))) ∧ Below w.heap.size w w' := by
  have HX : Hid (Bxd (w.alloc p.obj) w.heap.size p) := bxd_new w p
  have HW : Hid (Below w.heap.size w (w.alloc p.obj)) := fresh _ _
  have HP : Hid (Pl w p es ws ns) := h
  clear h
  have C1 := fun (u : World) => numbers_any u p
  have C2 := fun (u : World) (hu : Below w.heap.size w u) (hf : 2 ≤ p.nodes ∧ p.nodes ≤ 6) => edges_any (HP.out.below hu) hf
  have C3 := fun (u : World) (hu : Below w.heap.size w u) => weights_any (HP.out.below hu)
  have C4 := fun (u : World) (hu : Below w.heap.size w u) => next_any (HP.out.below hu)
  have HF : Plan.fine p.num = true → 2 ≤ p.nodes ∧ p.nodes ≤ 6 := @Plan.fine_nodes p.num
  obtain ⟨t1, ht1⟩ : ∃ t, Plan.fine p.num = t := ⟨_, rfl⟩
  obtain ⟨t2, ht2⟩ : ∃ t, Plan.edgesOk p.nodes es = t := ⟨_, rfl⟩
  obtain ⟨t3, ht3⟩ : ∃ t, (decide ((ws.length : Int) = p.lanes) && Plan.wsOk ws) = t := ⟨_, rfl⟩
  obtain ⟨t4, ht4⟩ : ∃ t, (decide ((ns.length : Int) = p.nodes) && ns.all (fun n => decide ((n : Int) = p.nodes))) = t := ⟨_, rfl⟩
  have hM : Plan.may p.num es ws ns = (t1 && t2 && t3 && t4) := by
    rw [← ht1, ← ht2, ← ht3, ← ht4]
    exact Plan.may_parts p.num es ws ns
  rw [hM]
  rw [ht1] at C1 HF
  rw [ht2] at C2
  rw [ht3] at C3
  rw [ht4] at C4
  clear ht1 ht2 ht3 ht4 hM
  obtain ⟨N, lanes, room, queue, rounds, every, bag, start, ea, en, ec, wa, wn, wc, na, nn, nc⟩ := p
  simp only [PV.val, PV.obj] at HX HW C1 C2 C3 C4 HF ⊢
  have D1 : Hid _ := C1
  have D2 : Hid _ := C2
  have D3 : Hid _ := C3
  have D4 : Hid _ := C4
  have DF : Hid _ := HF
  clear C1 C2 C3 C4 HF
  cases t1 with
  | false =>
    go_enter Try.func22, Try.ntmps22
    go_wp2_with (go_at_call 34; refine Calls.mono (D1.out _) ?_; rintro e w1 ⟨rfl, hB⟩; have HX1 : Hid (Bxd w1 w.heap.size ⟨N, lanes, room, queue, rounds, every, bag, start, ea, en, ec, wa, wn, wc, na, nn, nc⟩) := HX.out.below hB; obtain ⟨x1_0, x1_1, x1_2, x1_3, x1_4, x1_5, x1_6, x1_7, x1_8, x1_9, x1_10⟩ := HX.out.below hB; simp only at x1_0 x1_1 x1_2 x1_3 x1_4 x1_5 x1_6 x1_7 x1_8 x1_9 x1_10; have HB1 : Hid (Below w.heap.size w w1) := later HW.out hB; clear hB)
    go_ret
    exact ⟨rfl, HB1.out⟩
  | true =>
    have hN := DF.out rfl
    have HN : Hid (2 ≤ N ∧ N ≤ 6) := hN
    clear hN
    cases t2 with
    | false =>
      go_enter Try.func22, Try.ntmps22
      go_wp2_with (first | (go_at_call 35; refine Calls.mono (D2.out _ HB1.out HN.out) ?_; rintro e w2 ⟨rfl, hB⟩; have HX2 : Hid (Bxd w2 w.heap.size ⟨N, lanes, room, queue, rounds, every, bag, start, ea, en, ec, wa, wn, wc, na, nn, nc⟩) := HX1.out.below hB; obtain ⟨x2_0, x2_1, x2_2, x2_3, x2_4, x2_5, x2_6, x2_7, x2_8, x2_9, x2_10⟩ := HX1.out.below hB; simp only at x2_0 x2_1 x2_2 x2_3 x2_4 x2_5 x2_6 x2_7 x2_8 x2_9 x2_10; have HB2 : Hid (Below w.heap.size w w2) := later HB1.out hB; clear hB) | (go_at_call 34; refine Calls.mono (D1.out _) ?_; rintro e w1 ⟨rfl, hB⟩; have HX1 : Hid (Bxd w1 w.heap.size ⟨N, lanes, room, queue, rounds, every, bag, start, ea, en, ec, wa, wn, wc, na, nn, nc⟩) := HX.out.below hB; obtain ⟨x1_0, x1_1, x1_2, x1_3, x1_4, x1_5, x1_6, x1_7, x1_8, x1_9, x1_10⟩ := HX.out.below hB; simp only at x1_0 x1_1 x1_2 x1_3 x1_4 x1_5 x1_6 x1_7 x1_8 x1_9 x1_10; have HB1 : Hid (Below w.heap.size w w1) := later HW.out hB; clear hB))
      go_ret
      exact ⟨rfl, HB2.out⟩
    | true =>
      cases t3 with
      | false =>
        go_enter Try.func22, Try.ntmps22
        go_wp2_with (first | (go_at_call 36; refine Calls.mono (D3.out _ HB2.out) ?_; rintro e w3 ⟨rfl, hB⟩; have HX3 : Hid (Bxd w3 w.heap.size ⟨N, lanes, room, queue, rounds, every, bag, start, ea, en, ec, wa, wn, wc, na, nn, nc⟩) := HX2.out.below hB; obtain ⟨x3_0, x3_1, x3_2, x3_3, x3_4, x3_5, x3_6, x3_7, x3_8, x3_9, x3_10⟩ := HX2.out.below hB; simp only at x3_0 x3_1 x3_2 x3_3 x3_4 x3_5 x3_6 x3_7 x3_8 x3_9 x3_10; have HB3 : Hid (Below w.heap.size w w3) := later HB2.out hB; clear hB) | (go_at_call 35; refine Calls.mono (D2.out _ HB1.out HN.out) ?_; rintro e w2 ⟨rfl, hB⟩; have HX2 : Hid (Bxd w2 w.heap.size ⟨N, lanes, room, queue, rounds, every, bag, start, ea, en, ec, wa, wn, wc, na, nn, nc⟩) := HX1.out.below hB; obtain ⟨x2_0, x2_1, x2_2, x2_3, x2_4, x2_5, x2_6, x2_7, x2_8, x2_9, x2_10⟩ := HX1.out.below hB; simp only at x2_0 x2_1 x2_2 x2_3 x2_4 x2_5 x2_6 x2_7 x2_8 x2_9 x2_10; have HB2 : Hid (Below w.heap.size w w2) := later HB1.out hB; clear hB) | (go_at_call 34; refine Calls.mono (D1.out _) ?_; rintro e w1 ⟨rfl, hB⟩; have HX1 : Hid (Bxd w1 w.heap.size ⟨N, lanes, room, queue, rounds, every, bag, start, ea, en, ec, wa, wn, wc, na, nn, nc⟩) := HX.out.below hB; obtain ⟨x1_0, x1_1, x1_2, x1_3, x1_4, x1_5, x1_6, x1_7, x1_8, x1_9, x1_10⟩ := HX.out.below hB; simp only at x1_0 x1_1 x1_2 x1_3 x1_4 x1_5 x1_6 x1_7 x1_8 x1_9 x1_10; have HB1 : Hid (Below w.heap.size w w1) := later HW.out hB; clear hB))
        go_ret
        exact ⟨rfl, HB3.out⟩
      | true =>
        cases t4 with
        | false =>
          go_enter Try.func22, Try.ntmps22
          go_wp2_with (first | (go_at_call 37; refine Calls.mono (D4.out _ HB3.out) ?_; rintro e w4 ⟨rfl, hB⟩; have HX4 : Hid (Bxd w4 w.heap.size ⟨N, lanes, room, queue, rounds, every, bag, start, ea, en, ec, wa, wn, wc, na, nn, nc⟩) := HX3.out.below hB; obtain ⟨x4_0, x4_1, x4_2, x4_3, x4_4, x4_5, x4_6, x4_7, x4_8, x4_9, x4_10⟩ := HX3.out.below hB; simp only at x4_0 x4_1 x4_2 x4_3 x4_4 x4_5 x4_6 x4_7 x4_8 x4_9 x4_10; have HB4 : Hid (Below w.heap.size w w4) := later HB3.out hB; clear hB) | (go_at_call 36; refine Calls.mono (D3.out _ HB2.out) ?_; rintro e w3 ⟨rfl, hB⟩; have HX3 : Hid (Bxd w3 w.heap.size ⟨N, lanes, room, queue, rounds, every, bag, start, ea, en, ec, wa, wn, wc, na, nn, nc⟩) := HX2.out.below hB; obtain ⟨x3_0, x3_1, x3_2, x3_3, x3_4, x3_5, x3_6, x3_7, x3_8, x3_9, x3_10⟩ := HX2.out.below hB; simp only at x3_0 x3_1 x3_2 x3_3 x3_4 x3_5 x3_6 x3_7 x3_8 x3_9 x3_10; have HB3 : Hid (Below w.heap.size w w3) := later HB2.out hB; clear hB) | (go_at_call 35; refine Calls.mono (D2.out _ HB1.out HN.out) ?_; rintro e w2 ⟨rfl, hB⟩; have HX2 : Hid (Bxd w2 w.heap.size ⟨N, lanes, room, queue, rounds, every, bag, start, ea, en, ec, wa, wn, wc, na, nn, nc⟩) := HX1.out.below hB; obtain ⟨x2_0, x2_1, x2_2, x2_3, x2_4, x2_5, x2_6, x2_7, x2_8, x2_9, x2_10⟩ := HX1.out.below hB; simp only at x2_0 x2_1 x2_2 x2_3 x2_4 x2_5 x2_6 x2_7 x2_8 x2_9 x2_10; have HB2 : Hid (Below w.heap.size w w2) := later HB1.out hB; clear hB) | (go_at_call 34; refine Calls.mono (D1.out _) ?_; rintro e w1 ⟨rfl, hB⟩; have HX1 : Hid (Bxd w1 w.heap.size ⟨N, lanes, room, queue, rounds, every, bag, start, ea, en, ec, wa, wn, wc, na, nn, nc⟩) := HX.out.below hB; obtain ⟨x1_0, x1_1, x1_2, x1_3, x1_4, x1_5, x1_6, x1_7, x1_8, x1_9, x1_10⟩ := HX.out.below hB; simp only at x1_0 x1_1 x1_2 x1_3 x1_4 x1_5 x1_6 x1_7 x1_8 x1_9 x1_10; have HB1 : Hid (Below w.heap.size w w1) := later HW.out hB; clear hB))
          go_ret
          exact ⟨rfl, HB4.out⟩
        | true =>
          go_enter Try.func22, Try.ntmps22
          go_wp2_with (first | (go_at_call 37; refine Calls.mono (D4.out _ HB3.out) ?_; rintro e w4 ⟨rfl, hB⟩; have HX4 : Hid (Bxd w4 w.heap.size ⟨N, lanes, room, queue, rounds, every, bag, start, ea, en, ec, wa, wn, wc, na, nn, nc⟩) := HX3.out.below hB; obtain ⟨x4_0, x4_1, x4_2, x4_3, x4_4, x4_5, x4_6, x4_7, x4_8, x4_9, x4_10⟩ := HX3.out.below hB; simp only at x4_0 x4_1 x4_2 x4_3 x4_4 x4_5 x4_6 x4_7 x4_8 x4_9 x4_10; have HB4 : Hid (Below w.heap.size w w4) := later HB3.out hB; clear hB) | (go_at_call 36; refine Calls.mono (D3.out _ HB2.out) ?_; rintro e w3 ⟨rfl, hB⟩; have HX3 : Hid (Bxd w3 w.heap.size ⟨N, lanes, room, queue, rounds, every, bag, start, ea, en, ec, wa, wn, wc, na, nn, nc⟩) := HX2.out.below hB; obtain ⟨x3_0, x3_1, x3_2, x3_3, x3_4, x3_5, x3_6, x3_7, x3_8, x3_9, x3_10⟩ := HX2.out.below hB; simp only at x3_0 x3_1 x3_2 x3_3 x3_4 x3_5 x3_6 x3_7 x3_8 x3_9 x3_10; have HB3 : Hid (Below w.heap.size w w3) := later HB2.out hB; clear hB) | (go_at_call 35; refine Calls.mono (D2.out _ HB1.out HN.out) ?_; rintro e w2 ⟨rfl, hB⟩; have HX2 : Hid (Bxd w2 w.heap.size ⟨N, lanes, room, queue, rounds, every, bag, start, ea, en, ec, wa, wn, wc, na, nn, nc⟩) := HX1.out.below hB; obtain ⟨x2_0, x2_1, x2_2, x2_3, x2_4, x2_5, x2_6, x2_7, x2_8, x2_9, x2_10⟩ := HX1.out.below hB; simp only at x2_0 x2_1 x2_2 x2_3 x2_4 x2_5 x2_6 x2_7 x2_8 x2_9 x2_10; have HB2 : Hid (Below w.heap.size w w2) := later HB1.out hB; clear hB) | (go_at_call 34; refine Calls.mono (D1.out _) ?_; rintro e w1 ⟨rfl, hB⟩; have HX1 : Hid (Bxd w1 w.heap.size ⟨N, lanes, room, queue, rounds, every, bag, start, ea, en, ec, wa, wn, wc, na, nn, nc⟩) := HX.out.below hB; obtain ⟨x1_0, x1_1, x1_2, x1_3, x1_4, x1_5, x1_6, x1_7, x1_8, x1_9, x1_10⟩ := HX.out.below hB; simp only at x1_0 x1_1 x1_2 x1_3 x1_4 x1_5 x1_6 x1_7 x1_8 x1_9 x1_10; have HB1 : Hid (Below w.heap.size w w1) := later HW.out hB; clear hB))
          go_ret
          exact ⟨rfl, HB4.out⟩
end Go.Proofs.Ytipdcpekepiphaa
