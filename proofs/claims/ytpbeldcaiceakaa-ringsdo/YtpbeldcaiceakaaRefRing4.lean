/-
  The document's own rings (package shunterref08): Push on the call's own. Conditions: none but that the rings are such.
-/
import Derived.Test.YtpbeldcaiceakaaRefRing3
import Derived.Deep.AppendLies
namespace Go.Proofs.Ytpbeldcaiceakaa
open Go.ChangeShapes Go.WideShapes Go.ChangeAt Go.RowKit
set_option linter.unusedVariables false

theorem ecells_snoc (ls : List Ent) (i o l : Int) (x : Pk) : ecells ls ++ [.int .i64 i, .int .i64 o, .int .i64 l, .int .i64 x.s, .int .i64 x.d, .int .i64 x.l, .int .u32 x.b] = ecells (ls ++ [((i, o, l), x)]) := by
  rw [ecells_append]
  rfl
theorem pushed_ref {w U u2 : World} {F : Nat → Prop} {r P L n m g cap2 H : Nat} {ls : List Ent} {a : Option Addr} {cap : Nat} {i o l : Int} {x : Pk} (h : RefIn w F r P L n ls a cap) (hm : ls.length = m) (hmn : m < n) (hb : Below w.heap.size w U)
    (hown : u2.ownsRow 0 67 7 (.slice (some ⟨g, 0, none⟩) (m + 1) cap2) (m + 1) (ecells ls ++ [.int .i64 i, .int .i64 o, .int .i64 l, .int .i64 x.s, .int .i64 x.d, .int .i64 x.l, .int .u32 x.b])) (hg : U.grownBy u2 (Value.slice a m cap).ownBlock)
    (hat : (Value.slice a m cap).ownBlock = some g ∨ g = H + 1) (hc : u2.cell? ⟨r, 3, none⟩ = some (.slice a m cap)) (hH : w.heap.size ≤ H) :
    ∃ F', RefAt (u2.setCell ⟨r, 3, none⟩ (.slice (some ⟨g, 0, none⟩) (m + 1) cap2)) F' r P L n (ls ++ [((i, o, l), x)]) ∧ Grows F w F' (u2.setCell ⟨r, 3, none⟩ (.slice (some ⟨g, 0, none⟩) (m + 1) cap2)) := by
  have hlen : (ls ++ [((i, o, l), x)]).length = m + 1 := by rw [List.length_append, hm]; rfl
  have hob : ∀ k, (Value.slice a m cap).ownBlock = some k → F k ∧ k ≠ r := by
    intro k e
    cases a with
    | none => simp [Value.ownBlock] at e
    | some ad => simp only [Value.ownBlock, Option.some.injEq] at e; rw [← e]; exact h.head ad rfl
  have hrl : r < w.heap.size := h.foot r h.self
  have hgr : g ≠ r := hat.elim (fun e => (hob g e).2) (fun e => by omega)
  have S1 : Sans F w u2 := (Sans.of_below hb).then (Sans.of_grown hg (fun k e => (hob k e).1))
  have S2 : Sans (fun k => k = r) u2 (u2.setCell ⟨r, 3, none⟩ (.slice (some ⟨g, 0, none⟩) (m + 1) cap2)) := Sans.of_set u2 ⟨r, 3, none⟩ _ rfl
  have S12 : Sans F w (u2.setCell ⟨r, 3, none⟩ (.slice (some ⟨g, 0, none⟩) (m + 1) cap2)) := S1.then (S2.mono (fun k e => by rw [e]; exact h.self))
  have hgl : g < u2.heap.size := (hown.lt g rfl).2
  have old : ∀ j, u2.cell? ⟨r, j, none⟩ = w.cell? ⟨r, j, none⟩ := fun j => ((Sans.of_grown (F := fun k => (Value.slice a m cap).ownBlock = some k) hg (fun k e => e)).cell (p := ⟨r, j, none⟩) (Nat.lt_of_lt_of_le hrl hb.size) (fun e => (hob r e).2 rfl)).trans (hb.cell (p := ⟨r, j, none⟩) hrl)
  have oldf : u2.frozen? ⟨r, 3, none⟩ = w.frozen? ⟨r, 3, none⟩ := ((Sans.of_grown (F := fun k => (Value.slice a m cap).ownBlock = some k) hg (fun k e => e)).frozen (p := ⟨r, 3, none⟩) (Nat.lt_of_lt_of_le hrl hb.size) (fun e => (hob r e).2 rfl)).trans (hb.frozen (p := ⟨r, 3, none⟩) hrl)
  refine ⟨fun k => F k ∨ k = g, ⟨some ⟨g, 0, none⟩, cap2, ⟨?_, .inl h.self, cell_set ((old 0).trans h.c0) (by omega), cell_set ((old 1).trans h.c1) (by omega), cell_set ((old 2).trans h.c2) (by omega), ?_, ?_, ?_, ?_, by rw [hlen]; omega, h.n2, h.p2⟩⟩, S12, ?_⟩
  · rintro k (e | e)
    · exact Nat.lt_of_lt_of_le (h.foot k e) S12.size
    · rw [e]; exact Nat.lt_of_lt_of_le hgl S2.size
  · rw [hlen]; exact World.cell?_setCell_same _ _ _ hc
  · rw [World.frozen?_setCell, oldf]; exact h.f3
  · rw [hlen, ← ecells_snoc]
    exact owns_at hown S2 hgr
  · intro ad e
    cases e
    exact ⟨.inr rfl, hgr⟩
  · rintro k (e | e)
    · exact .inl e
    · exact hat.elim (fun e2 => .inl (by rw [e]; exact (hob g e2).1)) (fun e2 => .inr (by omega))
section
variable {w : World} {F : Nat → Prop} {r P L n : Nat} {ls : List Ent}
set_option maxHeartbeats 4000000 in
set_option maxRecDepth 100000 in
theorem refPush_no (h : RefAt w F r P L n ls) (i o l : Int) (x : Pk) (hno : takes P L n ls.length (i, o, l) = false) :
    Calls Try.prog 28 #[.pointer (some ⟨r, 0, none⟩), .int .i64 i, .int .i64 o, .int .i64 l, .agg #[.int .i64 x.s, .int .i64 x.d, .int .i64 x.l, .int .u32 x.b]] w fun e w' => e = .returned (.bool false) ∧ Below w.heap.size w w' := by
  obtain ⟨a, cap, h⟩ := h
  obtain ⟨W, hW⟩ : ∃ W, W = w.alloc (.cells #[.int .i64 x.s, .int .i64 x.d, .int .i64 x.l, .int .u32 x.b] 27) := ⟨_, rfl⟩
  have bel : Below w.heap.size w W := by rw [hW]; exact fresh _ _
  have h2 := h.below bel
  obtain ⟨m, hm⟩ : ∃ m, ls.length = m := ⟨_, rfl⟩
  have hc0 := h2.c0
  have hc1 := h2.c1
  have hc2 := h2.c2
  have hc3 := h2.c3
  rw [hm] at hc3
  have hne := Since.any W
  have z0 := fun n : Since W => n.cell hc0
  have z1 := fun n : Since W => n.cell hc1
  have z2 := fun n : Since W => n.cell hc2
  have z3 := fun n : Since W => n.cell hc3
  have HB : Hid (Below w.heap.size w W) := bel
  have hnn : ¬ (((0 ≤ i ∧ i < P) ∧ (0 ≤ o ∧ o < P) ∧ (0 ≤ l ∧ l < L)) ∧ m < n) := by rw [← hm]; exact of_decide_eq_false hno
  have HN : Hid (¬ (((0 ≤ i ∧ i < P) ∧ (0 ≤ o ∧ o < P) ∧ (0 ≤ l ∧ l < L)) ∧ m < n)) := hnn
  clear h h2 bel hm hno hnn
  by_cases h0 : i < 0
  · have g0 : decide (i < 0) = true := decide_eq_true h0
    clear HN
    go_enter Try.func28, Try.ntmps28
    go_wp2_with fail
    rw [← hW]
    clear hW
    refine region_since (u := W) (by kernel_rfl) (by kernel_rfl) (Below.refl _ _) ?_
    repeat (go_big_quiet_step (fail))
    refine wpQuiet_nil ?_
    intro _ hw'
    obtain ⟨nq, hw''⟩ := hw'
    subst hw''
    go_wp2_with fail
    go_ret
    exact ⟨rfl, later HB.out nq.h⟩
  · by_cases h1 : (P : Int) ≤ i
    · have g0 : decide (i < 0) = false := decide_eq_false h0
      have g1 : decide ((P : Int) ≤ i) = true := decide_eq_true h1
      clear HN
      go_enter Try.func28, Try.ntmps28
      go_wp2_with fail
      rw [← hW]
      clear hW
      refine region_since (u := W) (by kernel_rfl) (by kernel_rfl) (Below.refl _ _) ?_
      repeat (go_big_quiet_step (fail))
      refine wpQuiet_nil ?_
      intro _ hw'
      obtain ⟨nq, hw''⟩ := hw'
      subst hw''
      go_wp2_with fail
      go_ret
      exact ⟨rfl, later HB.out nq.h⟩
    · by_cases h2 : o < 0
      · have g0 : decide (i < 0) = false := decide_eq_false h0
        have g1 : decide ((P : Int) ≤ i) = false := decide_eq_false h1
        have g2 : decide (o < 0) = true := decide_eq_true h2
        clear HN
        go_enter Try.func28, Try.ntmps28
        go_wp2_with fail
        rw [← hW]
        clear hW
        refine region_since (u := W) (by kernel_rfl) (by kernel_rfl) (Below.refl _ _) ?_
        repeat (go_big_quiet_step (fail))
        refine wpQuiet_nil ?_
        intro _ hw'
        obtain ⟨nq, hw''⟩ := hw'
        subst hw''
        go_wp2_with fail
        go_ret
        exact ⟨rfl, later HB.out nq.h⟩
      · by_cases h3 : (P : Int) ≤ o
        · have g0 : decide (i < 0) = false := decide_eq_false h0
          have g1 : decide ((P : Int) ≤ i) = false := decide_eq_false h1
          have g2 : decide (o < 0) = false := decide_eq_false h2
          have g3 : decide ((P : Int) ≤ o) = true := decide_eq_true h3
          clear HN
          go_enter Try.func28, Try.ntmps28
          go_wp2_with fail
          rw [← hW]
          clear hW
          refine region_since (u := W) (by kernel_rfl) (by kernel_rfl) (Below.refl _ _) ?_
          repeat (go_big_quiet_step (fail))
          refine wpQuiet_nil ?_
          intro _ hw'
          obtain ⟨nq, hw''⟩ := hw'
          subst hw''
          go_wp2_with fail
          go_ret
          exact ⟨rfl, later HB.out nq.h⟩
        · by_cases h4 : l < 0
          · have g0 : decide (i < 0) = false := decide_eq_false h0
            have g1 : decide ((P : Int) ≤ i) = false := decide_eq_false h1
            have g2 : decide (o < 0) = false := decide_eq_false h2
            have g3 : decide ((P : Int) ≤ o) = false := decide_eq_false h3
            have g4 : decide (l < 0) = true := decide_eq_true h4
            clear HN
            go_enter Try.func28, Try.ntmps28
            go_wp2_with fail
            rw [← hW]
            clear hW
            refine region_since (u := W) (by kernel_rfl) (by kernel_rfl) (Below.refl _ _) ?_
            repeat (go_big_quiet_step (fail))
            refine wpQuiet_nil ?_
            intro _ hw'
            obtain ⟨nq, hw''⟩ := hw'
            subst hw''
            go_wp2_with fail
            go_ret
            exact ⟨rfl, later HB.out nq.h⟩
          · by_cases h5 : (L : Int) ≤ l
            · have g0 : decide (i < 0) = false := decide_eq_false h0
              have g1 : decide ((P : Int) ≤ i) = false := decide_eq_false h1
              have g2 : decide (o < 0) = false := decide_eq_false h2
              have g3 : decide ((P : Int) ≤ o) = false := decide_eq_false h3
              have g4 : decide (l < 0) = false := decide_eq_false h4
              have g5 : decide ((L : Int) ≤ l) = true := decide_eq_true h5
              clear HN
              go_enter Try.func28, Try.ntmps28
              go_wp2_with fail
              rw [← hW]
              clear hW
              refine region_since (u := W) (by kernel_rfl) (by kernel_rfl) (Below.refl _ _) ?_
              repeat (go_big_quiet_step (fail))
              refine wpQuiet_nil ?_
              intro _ hw'
              obtain ⟨nq, hw''⟩ := hw'
              subst hw''
              go_wp2_with fail
              go_ret
              exact ⟨rfl, later HB.out nq.h⟩
            · have h6 : (n : Int) ≤ (m : Int) := by have := HN.out; omega
              have g0 : decide (i < 0) = false := decide_eq_false h0
              have g1 : decide ((P : Int) ≤ i) = false := decide_eq_false h1
              have g2 : decide (o < 0) = false := decide_eq_false h2
              have g3 : decide ((P : Int) ≤ o) = false := decide_eq_false h3
              have g4 : decide (l < 0) = false := decide_eq_false h4
              have g5 : decide ((L : Int) ≤ l) = false := decide_eq_false h5
              have g6 : decide ((n : Int) ≤ (m : Int)) = true := decide_eq_true h6
              clear HN
              go_enter Try.func28, Try.ntmps28
              go_wp2_with fail
              rw [← hW]
              clear hW
              refine region_since (u := W) (by kernel_rfl) (by kernel_rfl) (Below.refl _ _) ?_
              repeat (go_big_quiet_step (fail))
              refine wpQuiet_nil ?_
              intro _ hw'
              obtain ⟨nq, hw''⟩ := hw'
              subst hw''
              go_wp2_with fail
              go_ret
              exact ⟨rfl, later HB.out nq.h⟩
set_option maxHeartbeats 4000000 in
set_option maxRecDepth 100000 in
theorem refPush_yes (h : RefAt w F r P L n ls) (i o l : Int) (x : Pk) (hyes : takes P L n ls.length (i, o, l) = true) :
    Calls Try.prog 28 #[.pointer (some ⟨r, 0, none⟩), .int .i64 i, .int .i64 o, .int .i64 l, .agg #[.int .i64 x.s, .int .i64 x.d, .int .i64 x.l, .int .u32 x.b]] w fun e w' => e = .returned (.bool true) ∧ ∃ F', RefAt w' F' r P L n (ls ++ [((i, o, l), x)]) ∧ Grows F w F' w' := by
  obtain ⟨a, cap, h⟩ := h
  obtain ⟨W, hW⟩ : ∃ W, W = w.alloc (.cells #[.int .i64 x.s, .int .i64 x.d, .int .i64 x.l, .int .u32 x.b] 27) := ⟨_, rfl⟩
  have bel : Below w.heap.size w W := by rw [hW]; exact fresh _ _
  have h2 := h.below bel
  obtain ⟨m, hm⟩ : ∃ m, ls.length = m := ⟨_, rfl⟩
  have hc0 := h2.c0
  have hc1 := h2.c1
  have hc2 := h2.c2
  have hc3 := h2.c3
  rw [hm] at hc3
  have hne := Since.any W
  have z0 := fun n : Since W => n.cell hc0
  have z1 := fun n : Since W => n.cell hc1
  have z2 := fun n : Since W => n.cell hc2
  have z3 := fun n : Since W => n.cell hc3
  have HB : Hid (Below w.heap.size w W) := bel
  obtain ⟨⟨⟨y0, y1⟩, ⟨y2, y3⟩, ⟨y4, y5⟩⟩, y6⟩ : ((0 ≤ i ∧ i < P) ∧ (0 ≤ o ∧ o < P) ∧ (0 ≤ l ∧ l < L)) ∧ m < n := by rw [← hm]; exact of_decide_eq_true hyes
  have H0 : Hid (RefIn w F r P L n ls a cap) := h
  have HM : Hid (ls.length = m) := hm
  have hm2 : m ≤ 200 := by have := h.len; have := h.n2; omega
  have hp0 : W.cell? ⟨w.heap.size, 0, none⟩ = some (.int .i64 x.s) := by rw [hW]; simp
  have hp1 : W.cell? ⟨w.heap.size, 1, none⟩ = some (.int .i64 x.d) := by rw [hW]; simp
  have hp2 : W.cell? ⟨w.heap.size, 2, none⟩ = some (.int .i64 x.l) := by rw [hW]; simp
  have hp3 : W.cell? ⟨w.heap.size, 3, none⟩ = some (.int .u32 x.b) := by rw [hW]; simp
  have h0 : ¬ i < 0 := by omega
  have h1 : ¬ (P : Int) ≤ i := by omega
  have h2' : ¬ o < 0 := by omega
  have h3 : ¬ (P : Int) ≤ o := by omega
  have h4 : ¬ l < 0 := by omega
  have h5 : ¬ (L : Int) ≤ l := by omega
  have h6 : ¬ (n : Int) ≤ (m : Int) := by omega
  have g0 : decide (i < 0) = false := decide_eq_false h0
  have g1 : decide ((P : Int) ≤ i) = false := decide_eq_false h1
  have g2 : decide (o < 0) = false := decide_eq_false h2'
  have g3 : decide ((P : Int) ≤ o) = false := decide_eq_false h3
  have g4 : decide (l < 0) = false := decide_eq_false h4
  have g5 : decide ((L : Int) ≤ l) = false := decide_eq_false h5
  have g6 : decide ((n : Int) ≤ (m : Int)) = false := decide_eq_false h6
  obtain ⟨i0, hi0, hz0, hz1, hz2⟩ := info_parts infoE
  clear h h2 bel hm hyes h0 h1 h2' h3 h4 h5 h6 y0 y1 y2 y3 y4 y5
  go_enter Try.func28, Try.ntmps28
  go_wp2_with fail
  rw [← hW]
  clear hW
  refine region_since (u := W) (by kernel_rfl) (by kernel_rfl) (Below.refl _ _) ?_
  repeat (go_big_quiet_step (fail))
  refine wpQuiet_nil ?_
  intro _ hw'
  obtain ⟨nq, hw''⟩ := hw'
  subst hw''
  clear z0 z1 z2 z3 hne
  have HU : Hid (Below w.heap.size w nq.w) := later HB.out nq.h
  have k3 : nq.w.cell? ⟨r, 3, none⟩ = some (.slice a m cap) := (nq.h.cell (p := ⟨r, 3, none⟩) (cell_lt hc3)).trans hc3
  have p0 : nq.w.cell? ⟨w.heap.size, 0, none⟩ = some (.int .i64 x.s) := (nq.h.cell (p := ⟨w.heap.size, 0, none⟩) (cell_lt hp0)).trans hp0
  have p1 : nq.w.cell? ⟨w.heap.size, 1, none⟩ = some (.int .i64 x.d) := (nq.h.cell (p := ⟨w.heap.size, 1, none⟩) (cell_lt hp1)).trans hp1
  have p2 : nq.w.cell? ⟨w.heap.size, 2, none⟩ = some (.int .i64 x.l) := (nq.h.cell (p := ⟨w.heap.size, 2, none⟩) (cell_lt hp2)).trans hp2
  have p3 : nq.w.cell? ⟨w.heap.size, 3, none⟩ = some (.int .u32 x.b) := (nq.h.cell (p := ⟨w.heap.size, 3, none⟩) (cell_lt hp3)).trans hp3
  clear hc0 hc1 hc2 hc3 hp0 hp1 hp2 hp3
  obtain ⟨u, hu⟩ : ∃ u, nq.w = u := ⟨_, rfl⟩
  rw [hu] at HU k3 p0 p1 p2 p3 ⊢
  clear hu
  obtain ⟨X, hX⟩ : ∃ X : Obj, X = .cells #[.int .i64 i, .int .i64 o, .int .i64 l, .int .i64 x.s, .int .i64 x.d, .int .i64 x.l, .int .u32 x.b] 67 := ⟨_, rfl⟩
  have HBX : Hid (Below w.heap.size w (u.drew.alloc X)) := later (later HU.out (drewN_below u 1)) (fresh _ _)
  have HO : Hid ((u.drew.alloc X).ownsRow 0 67 7 (.slice a m cap) m (ecells ls)) := by
    have := (H0.out.below HBX.out).row
    rw [HM.out] at this
    exact this
  have HNw : Hid (∀ (j : Nat) (v : Value), [Value.int .i64 i, .int .i64 o, .int .i64 l, .int .i64 x.s, .int .i64 x.d, .int .i64 x.l, .int .u32 x.b][j]? = some v → (u.drew.alloc X).cell? ((⟨u.heap.size, 0, none⟩ : Addr).add j) = some v) := by
    rw [hX]
    exact World.news_of_block (cs := #[.int .i64 i, .int .i64 o, .int .i64 l, .int .i64 x.s, .int .i64 x.d, .int .i64 x.l, .int .u32 x.b]) (t := 67) (fr := (0, 0)) (heap_alloc_new u.drew _)
  have hrl : r < w.heap.size := H0.out.foot r H0.out.self
  have hrn : some r ≠ (Value.slice a m cap).ownBlock := by
    cases a with
    | none => simp [Value.ownBlock]
    | some ad => simp only [Value.ownBlock]; intro e; injection e with e; exact (H0.out.head ad rfl).2 e.symm
  subst hX
  have hru : r < u.heap.size := cell_lt k3
  have hwu : w.heap.size < u.heap.size := cell_lt p0
  go_wp2_with fail
  go_region_law (refine step_append_lies _ (by rfl) (.tmp 61) (.tmp 67) 62 (by rfl) 0 67 i0 _ 7 56 Try.underlying62 hi0 hz0 hz1 hz2 rfl (by decide) (.slice a m cap) m (ecells ls) (by rfl) HO.out ⟨u.heap.size, 0, none⟩ 1 1 [.int .i64 i, .int .i64 o, .int .i64 l, .int .i64 x.s, .int .i64 x.d, .int .i64 x.l, .int .u32 x.b] (by rfl) rfl HNw.out (by simp [Value.oneCell']) (by decide) (by unfold maxLen; omega) (by omega) (Nat.zero_le _) (u.heap.size + 1) (by simp) ?_; intro g cap2 u2 hown hg hat hlt; have s0 : u2.cell? ⟨r, 3, none⟩ = some (.slice a m cap) := hg.cell (a := ⟨r, 3, none⟩) (((HBX.out.cell (p := ⟨r, 3, none⟩) hrl).trans H0.out.c3).trans (by rw [HM.out])) hrn; have s1 : u2.frozen? ⟨r, 3, none⟩ = false := (hg.frozen_far ⟨r, 3, none⟩ (Nat.lt_of_lt_of_le hrl HBX.out.size) hrn).trans ((HBX.out.frozen (p := ⟨r, 3, none⟩) hrl).trans H0.out.f3))
  all_goals
    go_wp2_with fail
    go_ret
    exact ⟨rfl, pushed_ref H0.out HM.out (by omega) HBX.out hown hg hat s0 HU.out.size⟩
end
end Go.Proofs.Ytpbeldcaiceakaa
