/-
  The document's own pool (package shunterref07): Put and New. Conditions: none but that the pool is one.
-/
import Derived.Test.YtmfjalnlfcbdlaaRefPool
import Derived.Deep.RegionHeld3
namespace Go.Proofs.Ytmfjalnlfcbdlaa
open Go.ChangeShapes Go.WideShapes Go.ChangeAt Go.RowKit
set_option linter.unusedVariables false

set_option maxHeartbeats 400000 in
theorem rput_none {w : World} {G : Nat → Prop} {q n : Nat} {S : List (Option Pk)} (h : RefAt w G q n S []) (a b c d : Int) :
    Calls Try.prog 18 #[.pointer (some ⟨q, 0, none⟩), .agg #[.int .i64 a, .int .i64 b, .int .i64 c, .int .u32 d]] w fun e w' => e = .returned (.tuple #[.int .i64 0, .bool false]) ∧ Below w.heap.size w w' := by
  obtain ⟨hi, gl, gf, ge, cap, h⟩ := h
  have hq := h.foot q h.gq
  have hc2 : ∀ o, (w.alloc o).cell? ⟨q, 2, none⟩ = some (.slice (some ⟨ge, 0, none⟩) 0 cap) := fun o => ((fresh w o).cell (p := ⟨q, 2, none⟩) hq).trans h.c2
  clear h hi
  go_enter Try.func18, Try.ntmps18
  go_wp2_with fail
  go_ret2
  exact ⟨rfl, fresh _ _⟩
set_option maxHeartbeats 1000000 in
theorem rput_some {w : World} {G : Nat → Prop} {q n k : Nat} {S : List (Option Pk)} {E : List Nat} (h : RefAt w G q n S (E ++ [k])) (a b c d : Int) :
    Calls Try.prog 18 #[.pointer (some ⟨q, 0, none⟩), .agg #[.int .i64 a, .int .i64 b, .int .i64 c, .int .u32 d]] w fun e w' => e = .returned (.tuple #[.int .i64 k, .bool true]) ∧ RefAt w' G q n (S.set k (some ⟨a, b, c, d⟩)) E ∧ Sans G w w' := by
  obtain ⟨hi, gl, gf, ge, cap, h⟩ := h
  have HV : Hid (Inv n S (E ++ [k])) := hi
  obtain ⟨m, hm⟩ : ∃ m, E.length = m := ⟨_, rfl⟩
  obtain ⟨W, hW⟩ : ∃ W, W = w.alloc (.cells #[.int .i64 a, .int .i64 b, .int .i64 c, .int .u32 d] 27) := ⟨_, rfl⟩
  have bel : Below w.heap.size w W := by rw [hW]; exact fresh _ _
  have h1 := h.below bel
  have hk0 := (hi.mem k).1 (by simp)
  have hlt : k < n := hi.lt (by simp)
  have hmn : m < n := by have := hi.le; rw [List.length_append, hm] at this; simp at this; omega
  have hn := h.n2
  have hnc := h.nc
  have hmx := (owns_cap h.stk).2
  have hc2 : W.cell? ⟨q, 2, none⟩ = some (.slice (some ⟨ge, 0, none⟩) (m + 1) cap) := by have := h1.c2; rw [List.length_append, hm] at this; exact this
  have hf2 := h1.f2
  have hkc : W.cell? ⟨ge, m, none⟩ = some (.int .i64 (k : Nat)) := by
    rw [owns_cells h1.stk (by rw [List.length_append, hm]; simp)]
    exact ints_at (by rw [← hm]; simp)
  have hb0 : W.cell? ⟨w.heap.size, 0, none⟩ = some (.int .i64 a) := by rw [hW]; simp
  have hb1 : W.cell? ⟨w.heap.size, 1, none⟩ = some (.int .i64 b) := by rw [hW]; simp
  have hb2 : W.cell? ⟨w.heap.size, 2, none⟩ = some (.int .i64 c) := by rw [hW]; simp
  have hb3 : W.cell? ⟨w.heap.size, 3, none⟩ = some (.int .u32 d) := by rw [hW]; simp
  obtain ⟨bx, hbx⟩ : ∃ bx, w.heap.size = bx := ⟨_, rfl⟩
  have hbq : bx ≠ q := by have := h.foot q h.gq; omega
  have HP : Hid (RefRaw (W.setCell ⟨q, 2, none⟩ (.slice (some ⟨ge, 0, none⟩) m cap)) G q gl gf ge n cap S E) := by have := h1.pop; rw [hm] at this; exact this
  have SP : Hid (Sans (fun j => j = q) W (W.setCell ⟨q, 2, none⟩ (.slice (some ⟨ge, 0, none⟩) m cap))) := Sans.of_set W ⟨q, 2, none⟩ _ rfl
  have HW : Hid (W = w.alloc (.cells #[.int .i64 a, .int .i64 b, .int .i64 c, .int .u32 d] 27)) := hW
  have HK : Hid (S[k]? = some none) := hk0
  have HB : Hid (Below w.heap.size w W) := bel
  have HH : Hid (RefRaw w G q gl gf ge n cap S (E ++ [k])) := h
  have HX : Hid (w.heap.size = bx) := hbx
  have h2' : (m : Int) < (m : Int) + 1 := by omega
  have h3' : (m : Int) ≤ cap := by omega
  have h4' : m ≤ cap := by omega
  have hez : ((m : Int) + 1 == 0) = false := by simp; omega
  rw [hbx] at hb0 hb1 hb2 hb3
  clear h h1 hk0 hi bel
  go_enter Try.func18, Try.ntmps18
  go_upto_region 1 with fail
  rw [← hW]
  clear hbx hW
  go_wp2_with fail
  have hx0 : (W.setCell ⟨q, 2, none⟩ (.slice (some ⟨ge, 0, none⟩) m cap)).cell? ⟨bx, 0, none⟩ = some (.int .i64 a) := (SP.out.cell (p := ⟨bx, 0, none⟩) (cell_lt hb0) hbq).trans hb0
  have hx1 : (W.setCell ⟨q, 2, none⟩ (.slice (some ⟨ge, 0, none⟩) m cap)).cell? ⟨bx, 1, none⟩ = some (.int .i64 b) := (SP.out.cell (p := ⟨bx, 1, none⟩) (cell_lt hb1) hbq).trans hb1
  have hx2 : (W.setCell ⟨q, 2, none⟩ (.slice (some ⟨ge, 0, none⟩) m cap)).cell? ⟨bx, 2, none⟩ = some (.int .i64 c) := (SP.out.cell (p := ⟨bx, 2, none⟩) (cell_lt hb2) hbq).trans hb2
  have hx3 : (W.setCell ⟨q, 2, none⟩ (.slice (some ⟨ge, 0, none⟩) m cap)).cell? ⟨bx, 3, none⟩ = some (.int .u32 d) := (SP.out.cell (p := ⟨bx, 3, none⟩) (cell_lt hb3) hbq).trans hb3
  clear hb0 hb1 hb2 hb3 hc2 hkc hf2
  generalize W.setCell ⟨q, 2, none⟩ (.slice (some ⟨ge, 0, none⟩) m cap) = W2 at HP SP hx0 hx1 hx2 hx3 ⊢
  have hc0 := HP.out.c0
  obtain ⟨xs, hrow⟩ := HP.out.what
  obtain ⟨v0, g0⟩ := row4 hrow (j := k * 4) (by omega)
  obtain ⟨v1, g1⟩ := row4 hrow (j := k * 4 + 1) (by omega)
  obtain ⟨v2, g2⟩ := row4 hrow (j := k * 4 + 2) (by omega)
  obtain ⟨v3, g3⟩ := row4 hrow (j := k * 4 + 3) (by omega)
  have f0 := hrow.frozenAt (k * 4)
  have f1 := hrow.frozenAt (k * 4 + 1)
  have f2 := hrow.frozenAt (k * 4 + 2)
  have f3 := hrow.frozenAt (k * 4 + 3)
  have hlt2 : (k : Int) < n := by omega
  clear hrow
  go_region
  obtain ⟨hR, hP, sL⟩ := HP.out.lay HK.out ⟨a, b, c, d⟩
  have HL : Hid (RefRaw (((((W2.setCell ⟨gl, k * 4, none⟩ (.int .i64 a)).setCell ⟨gl, k * 4 + 1, none⟩ (.int .i64 b)).setCell ⟨gl, k * 4 + 2, none⟩ (.int .i64 c)).setCell ⟨gl, k * 4 + 3, none⟩ (.int .u32 d)).drew) G q gl gf ge n cap S E ∧ PkAt (((((W2.setCell ⟨gl, k * 4, none⟩ (.int .i64 a)).setCell ⟨gl, k * 4 + 1, none⟩ (.int .i64 b)).setCell ⟨gl, k * 4 + 2, none⟩ (.int .i64 c)).setCell ⟨gl, k * 4 + 3, none⟩ (.int .u32 d)).drew) gl (k * 4) ⟨a, b, c, d⟩ ∧ Sans (fun j => j = gl) W2 (((((W2.setCell ⟨gl, k * 4, none⟩ (.int .i64 a)).setCell ⟨gl, k * 4 + 1, none⟩ (.int .i64 b)).setCell ⟨gl, k * 4 + 2, none⟩ (.int .i64 c)).setCell ⟨gl, k * 4 + 3, none⟩ (.int .u32 d)).drew)) :=
    ⟨hR.below ((Below.refl _ _).drew), hP.below ((Below.refl _ _).drew), sL.then (Sans.drew _)⟩
  clear hR hP sL g0 g1 g2 g3 f0 f1 f2 f3 hx0 hx1 hx2 hx3 hc0
  generalize ((((W2.setCell ⟨gl, k * 4, none⟩ (.int .i64 a)).setCell ⟨gl, k * 4 + 1, none⟩ (.int .i64 b)).setCell ⟨gl, k * 4 + 2, none⟩ (.int .i64 c)).setCell ⟨gl, k * 4 + 3, none⟩ (.int .u32 d)).drew = W3 at HL ⊢
  have hc1 := HL.out.1.c1
  have hs := HL.out.1.cell HK.out
  simp only [flag, Option.isSome_none, if_neg Bool.false_ne_true] at hs
  have hf := HL.out.1.full.frozenAt k
  go_wp2_with fail
  go_ret2
  obtain ⟨hM, sM⟩ := HL.out.1.mark (k := k) (v := some ⟨a, b, c, d⟩) (fun x e => by cases e; exact HL.out.2.1)
  have hH := HH.out
  refine ⟨rfl, ⟨HV.out.put _, gl, gf, ge, cap, hM⟩, ?_⟩
  exact (((Sans.of_below HB.out).then (SP.out.mono (fun j e => by rw [e]; exact hH.gq))).then (HL.out.2.2.mono (fun j e => by rw [e]; exact hH.ggl))).then (sM.mono (fun j e => by rw [e]; exact hH.ggf))
theorem rnew_bad (z : Int) (hz : -9223372036854775808 ≤ z ∧ z ≤ 9223372036854775807) (h : z < 1 ∨ 200 < z) (w : World) :
    Calls Try.prog 15 #[.int .i64 z] w fun e w' => e = .returned (.pointer none) ∧ w' = w := by
  by_cases h1 : z < 1
  · go_enter Try.func15, Try.ntmps15
    go_wp2_with fail
    go_ret
    exact ⟨rfl, rfl⟩
  · have h2 : 200 < z := by omega
    go_enter Try.func15, Try.ntmps15
    go_wp2_with fail
    go_ret
    exact ⟨rfl, rfl⟩
/-- the document's pool while New lays its stack: m of n are laid, in the row that ae leads to -/
structure Stacking (w wr : World) (q gl gf n m : Nat) (ae : Option Addr) (cap : Nat) : Prop where
  bel : Below w.heap.size w wr
  qn : w.heap.size ≤ q ∧ w.heap.size ≤ gl ∧ w.heap.size ≤ gf
  lq : gl ≠ q
  fq : gf ≠ q
  fl : gf ≠ gl
  lt : q < wr.heap.size
  c0 : wr.cell? ⟨q, 0, none⟩ = some (.slice (some ⟨gl, 0, none⟩) n n)
  c1 : wr.cell? ⟨q, 1, none⟩ = some (.slice (some ⟨gf, 0, none⟩) n n)
  c2 : wr.cell? ⟨q, 2, none⟩ = some (.slice ae m cap)
  f2 : wr.frozen? ⟨q, 2, none⟩ = false
  full : wr.ownsRow 0 3 1 (.slice (some ⟨gf, 0, none⟩) n n) n ((none_ n).map flag)
  what : ∃ xs, wr.ownsRow 0 27 4 (.slice (some ⟨gl, 0, none⟩) n n) n xs
  own : wr.ownsRow 0 3 1 (.slice ae m cap) m (ints ((down n).take m))
  blks : ∀ j, blk ae j → j ≠ q ∧ j ≠ gl ∧ j ≠ gf ∧ w.heap.size ≤ j
  mn : m ≤ n
theorem Stacking.next {w wr u : World} {q gl gf n m g cap cap' : Nat} {ae : Option Addr} {o : Obj} (h : Stacking w wr q gl gf n m ae cap) (hm : m < n) (ho : u.ownsRow 0 3 1 (.slice (some ⟨g, 0, none⟩) (m + 1) cap') (m + 1) (ints ((down n).take m ++ [n - 1 - m]))) (hs : Sans (blk ae) (wr.alloc o) u) (hg : blk ae g ∨ g = (wr.alloc o).heap.size) :
    Stacking w (u.setCell ⟨q, 2, none⟩ (.slice (some ⟨g, 0, none⟩) (m + 1 : Nat) cap')) q gl gf n (m + 1) (some ⟨g, 0, none⟩) cap' := by
  have s1 : Sans (blk ae) wr u := (Sans.alloc wr o).then hs
  have s2 : Sans (fun j => j = q) u (u.setCell ⟨q, 2, none⟩ (.slice (some ⟨g, 0, none⟩) (m + 1 : Nat) cap')) := Sans.of_set u ⟨q, 2, none⟩ _ rfl
  have nq : ¬ blk ae q := fun e => (h.blks q e).1 rfl
  have nl : ¬ blk ae gl := fun e => (h.blks gl e).2.1 rfl
  have nf : ¬ blk ae gf := fun e => (h.blks gf e).2.2.1 rfl
  obtain ⟨xs, hx⟩ := h.what
  have hll := (hx.lt gl rfl).2
  have hfl := (h.full.lt gf rfl).2
  have hql := h.lt
  have hgg : g ≠ q ∧ g ≠ gl ∧ g ≠ gf ∧ w.heap.size ≤ g := by
    rcases hg with e | e
    · exact h.blks g e
    · have := h.bel.size
      simp at e
      refine ⟨?_, ?_, ?_, ?_⟩ <;> omega
  have c : ∀ i, u.cell? ⟨q, i, none⟩ = wr.cell? ⟨q, i, none⟩ := fun i => s1.cell (p := ⟨q, i, none⟩) h.lt nq
  have b1 : Below w.heap.size w u := h.bel.trans (s1.below h.bel.size (fun j hj => (h.blks j hj).2.2.2))
  refine ⟨b1.trans (s2.below b1.size (fun j e => by rw [e]; exact h.qn.1)), h.qn, h.lq, h.fq, h.fl, Nat.lt_of_lt_of_le h.lt (Nat.le_trans s1.size s2.size), cell_set ((c 0).trans h.c0) (by omega), cell_set ((c 1).trans h.c1) (by omega), World.cell?_setCell_same _ _ _ ((c 2).trans h.c2), ?_,
    owns_at (owns_at h.full s1 nf) s2 h.fq, ⟨xs, owns_at (owns_at hx s1 nl) s2 h.lq⟩, ?_, ?_, hm⟩
  · rw [World.frozen?_setCell]
    exact (s1.frozen (p := ⟨q, 2, none⟩) h.lt nq).trans h.f2
  · rw [List.take_add_one, down_at hm]
    exact owns_at ho s2 hgg.1
  · intro j hj
    rw [blk_some hj]
    exact hgg
theorem Stacking.done {w wr : World} {q gl gf n cap : Nat} {ae : Option Addr} (h : Stacking w wr q gl gf n n ae cap) (hn : 1 ≤ n ∧ n ≤ 200) : ∃ G, RefAt wr G q n (none_ n) (down n) ∧ ∀ k, G k → w.heap.size ≤ k := by
  obtain ⟨g, rfl⟩ : ∃ g, ae = some ⟨g, 0, none⟩ := by
    rcases h.own.2 with ⟨e, e2⟩ | ⟨g, cp, cur, e, _⟩
    · omega
    · simp only [Value.slice.injEq] at e; exact ⟨g, e.1⟩
  obtain ⟨h1, h2, h3, h4⟩ := h.blks g ⟨_, rfl, rfl⟩
  have ho := h.own
  rw [List.take_of_length_le (by rw [down_length]; omega)] at ho
  obtain ⟨xs, hx⟩ := h.what
  have hll := (hx.lt gl rfl).2
  have hfl := (h.full.lt gf rfl).2
  have hgl := (ho.lt g rfl).2
  refine ⟨fun j => j = q ∨ j = gl ∨ j = gf ∨ j = g, ⟨Inv.new n, gl, gf, g, cap, ⟨?_, .inl rfl, .inr (.inl rfl), .inr (.inr (.inl rfl)), .inr (.inr (.inr rfl)), h.lq, h.fq, h1, h.fl, h2, h3, h.c0, h.c1, by rw [down_length]; exact h.c2, h.f2, h.full, h.what, by rw [down_length]; exact ho, ?_, by simp [none_], hn.1, hn.2, (owns_cap ho).1⟩⟩, ?_⟩
  · rintro j (rfl | rfl | rfl | rfl)
    · exact h.lt
    · exact hll
    · exact hfl
    · exact hgl
  · intro k x hk
    have hkn : k < n := by have := (List.getElem?_eq_some_iff.1 hk).1; simpa [none_] using this
    rw [none_at.2 hkn] at hk
    simp at hk
  · rintro j (rfl | rfl | rfl | rfl)
    · exact h.qn.1
    · exact h.qn.2.1
    · exact h.qn.2.2
    · exact h4
theorem stack_start {w u : World} {gl gf n : Nat} (hb : Below w.heap.size w u) (h1 : w.heap.size ≤ gl ∧ gl < u.heap.size) (h2 : w.heap.size ≤ gf ∧ gf < u.heap.size) (h3 : gf ≠ gl) (hf : u.ownsRow 0 3 1 (.slice (some ⟨gf, 0, none⟩) n n) n (List.replicate n (.int .i64 0))) (hw : ∃ xs, u.ownsRow 0 27 4 (.slice (some ⟨gl, 0, none⟩) n n) n xs) :
    Stacking w ((u.alloc (.cells #[.slice (some ⟨gl, 0, none⟩) n n, .slice (some ⟨gf, 0, none⟩) n n, .slice none 0 0] 56)).drew) u.heap.size gl gf n 0 none 0 := by
  obtain ⟨xs, hx⟩ := hw
  have b1 : Below u.heap.size u ((u.alloc (.cells #[.slice (some ⟨gl, 0, none⟩) n n, .slice (some ⟨gf, 0, none⟩) n n, .slice none 0 0] 56)).drew) := (fresh u _).drew
  have hz := hb.size
  refine ⟨later hb b1, ⟨hz, h1.1, h2.1⟩, by omega, by omega, h3, by simp, by simp, by simp, by simp, by simp, ?_, ⟨xs, owns_below hx b1⟩, World.ownsRow_nil _ _ _ _, (fun j hj => by obtain ⟨ad, e, _⟩ := hj; cases e), Nat.zero_le _⟩
  rw [show (none_ n).map flag = List.replicate n (.int .i64 0) by unfold none_; rw [List.map_replicate]; rfl]
  exact owns_below hf b1
set_option maxHeartbeats 1000000 in
theorem rnew_good (n : Nat) (h : 1 ≤ n ∧ n ≤ 200) (w : World) :
    Calls Try.prog 15 #[.int .i64 n] w fun e w' => ∃ q G, e = .returned (.pointer (some ⟨q, 0, none⟩)) ∧ RefAt w' G q n (none_ n) (down n) ∧ Below w.heap.size w w' ∧ ∀ k, G k → w.heap.size ≤ k := by
  have hmk := run_make_row' (P := Try.prog) 43 3 (.int .i64 0) 8 Try.underlying43 infoI rfl .i64 .i64 n (by omega) (by omega)
  have hmp := make_pks n h.2
  have h1 : ¬ (n : Int) < 1 := by omega
  have h2 : ¬ (200 : Int) < n := by omega
  go_enter Try.func15, Try.ntmps15
  go_wp2_with fail
  go_region_with (fail)
  · have HS0 : Hid (Stacking w ((((w.alloc (.cells (zpks n) 27)).alloc (.cells (madeCells #[.int .i64 0] n) 3)).alloc (.cells #[.slice (some ⟨w.heap.size, 0, none⟩) n n, .slice (some ⟨w.heap.size + 1, 0, none⟩) n n, .slice none 0 0] 56)).drew) (w.heap.size + 1 + 1) (w.heap.size) (w.heap.size + 1) n 0 none 0) := by
      have hz : ((w.alloc (.cells (zpks n) 27)).alloc (.cells (madeCells #[.int .i64 0] n) 3)).heap.size = w.heap.size + 1 + 1 := by simp
      have bU : Below w.heap.size w ((w.alloc (.cells (zpks n) 27)).alloc (.cells (madeCells #[.int .i64 0] n) 3)) := later (fresh w _) (fresh _ _)
      have := stack_start (w := w) (u := (w.alloc (.cells (zpks n) 27)).alloc (.cells (madeCells #[.int .i64 0] n) 3)) (gl := w.heap.size) (gf := w.heap.size + 1) (n := n) bU (by omega) (by omega) (by omega) (by have := made_ints (w.alloc (.cells (zpks n) 27)) n h.2; simpa using this) ⟨_, (owns_below (made_pks w n h.2) (fresh _ _))⟩
      rw [hz] at this
      exact this
    generalize (((w.alloc (.cells (zpks n) 27)).alloc (.cells (madeCells #[.int .i64 0] n) 3)).alloc (.cells #[.slice (some ⟨w.heap.size, 0, none⟩) n n, .slice (some ⟨w.heap.size + 1, 0, none⟩) n n, .slice none 0 0] 56)).drew = W0 at HS0 ⊢
    generalize w.heap.size + 1 + 1 = q at HS0 ⊢
    generalize w.heap.size + 1 = g1 at HS0 ⊢
    generalize w.heap.size = g0 at HS0 ⊢
    clear hmk hmp h1 h2
    go_wp2_with fail
    go_loopw [4] (fun i wr => ∃ (m : Nat) (ae : Option Addr) (cap : Nat), i = .int .i64 ((n : Int) - 1 - m) ∧ Stacking w wr q g0 g1 n m ae cap) (fun i _ => (intOf i + 1).toNat)
    case atStart => exact ⟨0, none, 0, by go_num, HS0.out⟩
    case round =>
      obtain ⟨m, ae, cap, rfl, hst⟩ := hrel
      have HS : Hid (Stacking w wr q g0 g1 n m ae cap) := hst
      have hmn := hst.mn
      have hc2 := hst.c2
      have hf2 := hst.f2
      have hq := hst.lt
      clear hst HS0
      by_cases hm : m < n
      · obtain ⟨K, hK⟩ : ∃ K, n = m + 1 + K := ⟨n - m - 1, by omega⟩
        have hi : (n : Int) - 1 - m = K := by omega
        have HK : Hid (n - 1 - m = K) := (by omega : n - 1 - m = K)
        have nq : ¬ blk ae q := fun e => (HS.out.blks q e).1 rfl
        clear hK
        go_wp2_with (at_builtin; refine wpList_append_int rfl _ _ rfl ae m cap ((down n).take m) rfl (HS.out.own.alloc _) K _ 1 rfl (one_cell wr K) (by omega) ?_; intro g cap' u hown hS hg; have hcu : u.cell? ⟨q, 2, none⟩ = some (.slice ae m cap) := (hS.cell (p := ⟨q, 2, none⟩) (by simp; omega) nq).trans (((fresh wr _).cell (p := ⟨q, 2, none⟩) hq).trans hc2); have hfu : u.frozen? ⟨q, 2, none⟩ = false := (hS.frozen (p := ⟨q, 2, none⟩) (by simp; omega) nq).trans (((fresh wr _).frozen (p := ⟨q, 2, none⟩) hq).trans hf2); have HN := HS.out.next hm (by rw [HK.out]; exact hown) hS hg; have HNN : Hid (Stacking w (u.setCell ⟨q, 2, none⟩ (.slice (some ⟨g, 0, none⟩) (m + 1 : Nat) cap')) q g0 g1 n (m + 1) (some ⟨g, 0, none⟩) cap') := HN; clear HN hown hS hg)
        go_wp2_with fail
        go_roundw
        case rel => first | exact ⟨m + 1, _, _, by go_num, HNN.out⟩ | ((repeat apply Exists.intro); exact ⟨⟨m + 1, _, _, by go_num, HNN.out⟩, rfl⟩)
        case measure => first | (simp [intOf]; done) | (simp [intOf]; omega)
      · obtain rfl : m = n := by omega
        have hi : (m : Int) - 1 - m = -1 := by omega
        go_wp2_with fail
        go_ret
        obtain ⟨G, hR, hG⟩ := HS.out.done h
        exact ⟨q, G, rfl, hR, HS.out.bel, hG⟩
  · have HS0 : Hid (Stacking w ((((w.alloc (.cells (madeCells #[.int .i64 0] n) 3)).alloc (.cells (zpks n) 27)).alloc (.cells #[.slice (some ⟨w.heap.size + 1, 0, none⟩) n n, .slice (some ⟨w.heap.size, 0, none⟩) n n, .slice none 0 0] 56)).drew) (w.heap.size + 1 + 1) (w.heap.size + 1) (w.heap.size) n 0 none 0) := by
      have hz : ((w.alloc (.cells (madeCells #[.int .i64 0] n) 3)).alloc (.cells (zpks n) 27)).heap.size = w.heap.size + 1 + 1 := by simp
      have bU : Below w.heap.size w ((w.alloc (.cells (madeCells #[.int .i64 0] n) 3)).alloc (.cells (zpks n) 27)) := later (fresh w _) (fresh _ _)
      have := stack_start (w := w) (u := (w.alloc (.cells (madeCells #[.int .i64 0] n) 3)).alloc (.cells (zpks n) 27)) (gl := w.heap.size + 1) (gf := w.heap.size) (n := n) bU (by omega) (by omega) (by omega) (owns_below (made_ints w n h.2) (fresh _ _)) ⟨_, (by have := made_pks (w.alloc (.cells (madeCells #[.int .i64 0] n) 3)) n h.2; simpa using this)⟩
      rw [hz] at this
      exact this
    generalize (((w.alloc (.cells (madeCells #[.int .i64 0] n) 3)).alloc (.cells (zpks n) 27)).alloc (.cells #[.slice (some ⟨w.heap.size + 1, 0, none⟩) n n, .slice (some ⟨w.heap.size, 0, none⟩) n n, .slice none 0 0] 56)).drew = W0 at HS0 ⊢
    generalize w.heap.size + 1 + 1 = q at HS0 ⊢
    generalize w.heap.size + 1 = g1 at HS0 ⊢
    generalize w.heap.size = g0 at HS0 ⊢
    clear hmk hmp h1 h2
    go_wp2_with fail
    go_loopw [4] (fun i wr => ∃ (m : Nat) (ae : Option Addr) (cap : Nat), i = .int .i64 ((n : Int) - 1 - m) ∧ Stacking w wr q g1 g0 n m ae cap) (fun i _ => (intOf i + 1).toNat)
    case atStart => exact ⟨0, none, 0, by go_num, HS0.out⟩
    case round =>
      obtain ⟨m, ae, cap, rfl, hst⟩ := hrel
      have HS : Hid (Stacking w wr q g1 g0 n m ae cap) := hst
      have hmn := hst.mn
      have hc2 := hst.c2
      have hf2 := hst.f2
      have hq := hst.lt
      clear hst HS0
      by_cases hm : m < n
      · obtain ⟨K, hK⟩ : ∃ K, n = m + 1 + K := ⟨n - m - 1, by omega⟩
        have hi : (n : Int) - 1 - m = K := by omega
        have HK : Hid (n - 1 - m = K) := (by omega : n - 1 - m = K)
        have nq : ¬ blk ae q := fun e => (HS.out.blks q e).1 rfl
        clear hK
        go_wp2_with (at_builtin; refine wpList_append_int rfl _ _ rfl ae m cap ((down n).take m) rfl (HS.out.own.alloc _) K _ 1 rfl (one_cell wr K) (by omega) ?_; intro g cap' u hown hS hg; have hcu : u.cell? ⟨q, 2, none⟩ = some (.slice ae m cap) := (hS.cell (p := ⟨q, 2, none⟩) (by simp; omega) nq).trans (((fresh wr _).cell (p := ⟨q, 2, none⟩) hq).trans hc2); have hfu : u.frozen? ⟨q, 2, none⟩ = false := (hS.frozen (p := ⟨q, 2, none⟩) (by simp; omega) nq).trans (((fresh wr _).frozen (p := ⟨q, 2, none⟩) hq).trans hf2); have HN := HS.out.next hm (by rw [HK.out]; exact hown) hS hg; have HNN : Hid (Stacking w (u.setCell ⟨q, 2, none⟩ (.slice (some ⟨g, 0, none⟩) (m + 1 : Nat) cap')) q g1 g0 n (m + 1) (some ⟨g, 0, none⟩) cap') := HN; clear HN hown hS hg)
        go_wp2_with fail
        go_roundw
        case rel => first | exact ⟨m + 1, _, _, by go_num, HNN.out⟩ | ((repeat apply Exists.intro); exact ⟨⟨m + 1, _, _, by go_num, HNN.out⟩, rfl⟩)
        case measure => first | (simp [intOf]; done) | (simp [intOf]; omega)
      · obtain rfl : m = n := by omega
        have hi : (m : Int) - 1 - m = -1 := by omega
        go_wp2_with fail
        go_ret
        obtain ⟨G, hR, hG⟩ := HS.out.done h
        exact ⟨q, G, rfl, hR, HS.out.bel, hG⟩
end Go.Proofs.Ytmfjalnlfcbdlaa
