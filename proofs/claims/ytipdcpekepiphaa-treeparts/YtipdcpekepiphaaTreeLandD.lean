/-
  Package tree as it landed: the edges and the ways of a tree. Conditions: none but that the slice leads to numbers.
-/
import Derived.Test.YtipdcpekepiphaaTreeLandC
import Derived.Deep.OwnRows
namespace Go.Proofs.Ytipdcpekepiphaa
open Go.ChangeShapes Go.WideShapes Go.ChangeAt Go.RowKit Go.Shelf
set_option linter.unusedVariables false

theorem cut_snoc {xs ys : List Value} {k : Nat} (v : Value) (h : k < xs.length) (ht : xs.take k = ys) : (xs.set k v).take (k + 1) = ys ++ [v] := by
  rw [List.take_succ_eq_append_getElem (by rw [List.length_set]; exact h), List.getElem_set_self, List.take_set_of_le (by omega), ht]
theorem make_edges (n : Nat) (hn : n ≤ 200) (w : World) : (Instr.makeSlice 25 (.int .i64 (n : Int)) (.int .i64 (n : Int))).run Try.prog w = .ok (.slice (some ⟨w.heap.size, 0, none⟩) n n) (w.alloc (.cells (madeCells #[.int .i64 0, .int .i64 0] (n * 2)) 59)) := by
  obtain ⟨i, hi, hz0, hz1, hz2⟩ := info_parts infoE
  have hr := run_make (P := Try.prog) w 25 59 i _ Try.underlying25 hi hz0 .i64 .i64 n n (by omega) (Int.le_refl _) (by rw [hz2]; omega) (by omega)
  simp only [Int.toNat_natCast, hz1] at hr
  exact hr
theorem made_edges (w : World) (n : Nat) (hn : n ≤ 200) : (w.alloc (.cells (madeCells #[.int .i64 0, .int .i64 0] (n * 2)) 59)).ownsRow w.heap.size 59 2 (.slice (some ⟨w.heap.size, 0, none⟩) n n) n (madeCells #[.int .i64 0, .int .i64 0] (n * 2)).toList :=
  World.ownsRow_lit w _ n (Nat.le_refl _) (by unfold maxLen; omega) (size_madeCells _ _)

set_option maxHeartbeats 1000000 in
set_option maxRecDepth 100000 in
theorem edges_land {w : World} {a : Option Addr} {n c : Nat} {ps : List Int} (h : Zr w a n ps) (hn : n ≤ 5) :
    Calls Try.prog 25 #[.slice a n c] w fun e w' => ∃ x, e = .returned x ∧ w'.ownsRow w.heap.size 59 2 x (Tree.edges ps).length (pcells (Tree.edges ps)) ∧ Below w.heap.size w w' := by
  have HZ : Hid (Zr w a n ps) := h
  have HLn : Hid (ps.length = n) := h.1
  clear h
  have hmk := make_edges n (by omega)
  have HM : Hid ((w.alloc (.cells (madeCells #[.int .i64 0, .int .i64 0] (n * 2)) 59)).ownsRow w.heap.size 59 2 (.slice (some ⟨w.heap.size, 0, none⟩) n n) n (madeCells #[.int .i64 0, .int .i64 0] (n * 2)).toList) := made_edges w n (by omega)
  have HF : Hid (Below w.heap.size w (w.alloc (.cells (madeCells #[.int .i64 0, .int .i64 0] (n * 2)) 59))) := fresh w _
  go_enter Try.func25, Try.ntmps25
  go_wp2_with fail
  obtain ⟨W, hW⟩ : ∃ W, w.alloc (.cells (madeCells #[.int .i64 0, .int .i64 0] (n * 2)) 59) = W := ⟨_, rfl⟩
  rw [hW] at HM HF
  first | rw [hW] | skip
  clear hW hmk
  go_loopw [11] (fun i wr => ∃ (k : Nat) (xs : List Value), k ≤ n ∧ i = .int .i64 k ∧ wr.ownsRow w.heap.size 59 2 (.slice (some ⟨w.heap.size, 0, none⟩) n n) n xs ∧ xs.take (k * 2) = pcells ((Tree.edges ps).take k) ∧ Below w.heap.size w wr) (fun i _ => n - (intOf i).toNat)
  case atStart => exact ⟨0, _, Nat.zero_le _, rfl, HM.out, by simp [pcells], HF.out⟩
  case round =>
    obtain ⟨k, xs, hk, rfl, hO, hx, hB⟩ := hrel
    have HO : Hid (wr.ownsRow w.heap.size 59 2 (.slice (some ⟨w.heap.size, 0, none⟩) n n) n xs) := hO
    have HX : Hid (xs.take (k * 2) = pcells ((Tree.edges ps).take k)) := hx
    have HB : Hid (Below w.heap.size w wr) := hB
    have hxl := hO.1
    by_cases hkn : k < n
    · obtain ⟨b, off, ha, hc⟩ := (HZ.out.below HB.out).at hkn
      subst ha
      obtain ⟨y, hy⟩ : ∃ y, ps.getD k 0 = y := ⟨_, rfl⟩
      rw [hy] at hc
      have h0 := hO.cellAt (k * 2) (by omega)
      have h1 := hO.cellAt (k * 2 + 1) (by omega)
      rw [List.getElem?_eq_getElem (by omega)] at h0 h1
      have hf0 := hO.frozenAt (k * 2)
      have hf1 := hO.frozenAt (k * 2 + 1)
      have HE : Hid ((Tree.edges ps).take k ++ [(y, ((k + 1 : Nat) : Int))] = (Tree.edges ps).take (k + 1)) := by
        show _ = _
        rw [← hy]
        exact Tree.edges_take (by have := HLn.out; omega)
      obtain ⟨z0, hz0⟩ : ∃ z, xs[k * 2] = z := ⟨_, rfl⟩
      obtain ⟨z1, hz1⟩ : ∃ z, xs[k * 2 + 1] = z := ⟨_, rfl⟩
      rw [hz0] at h0
      rw [hz1] at h1
      have hszw := HB.out.size
      clear hy hx hB hO hz0 hz1
      go_wp2_with fail
      obtain ⟨r1, g1⟩ := HO.out.stored (k * 2) (.int .i64 y)
      obtain ⟨r2, g2⟩ := r1.stored (k * 2 + 1) (.int .i64 ((k : Int) + 1))
      have HR2 : Hid (((wr.setCell ⟨w.heap.size, k * 2, none⟩ (.int .i64 y)).setCell ⟨w.heap.size, k * 2 + 1, none⟩ (.int .i64 ((k : Int) + 1))).ownsRow w.heap.size 59 2 (.slice (some ⟨w.heap.size, 0, none⟩) n n) n ((xs.set (k * 2) (.int .i64 y)).set (k * 2 + 1) (.int .i64 ((k : Int) + 1)))) := r2
      have HG : Hid (Below w.heap.size w ((wr.setCell ⟨w.heap.size, k * 2, none⟩ (.int .i64 y)).setCell ⟨w.heap.size, k * 2 + 1, none⟩ (.int .i64 ((k : Int) + 1)))) := HB.out.trans (((Sans.of_set (F := fun j => j = w.heap.size) wr ⟨w.heap.size, k * 2, none⟩ (.int .i64 y) rfl).then (Sans.of_set _ ⟨w.heap.size, k * 2 + 1, none⟩ (.int .i64 ((k : Int) + 1)) rfl)).below (B := w.heap.size) hszw (fun j e => by omega))
      have HT : Hid (((xs.set (k * 2) (.int .i64 y)).set (k * 2 + 1) (.int .i64 ((k : Int) + 1))).take ((k + 1) * 2) = pcells ((Tree.edges ps).take (k + 1))) := by
        show _ = _
        rw [show (k + 1) * 2 = k * 2 + 1 + 1 by omega, cut_snoc (k := k * 2 + 1) _ (by rw [List.length_set]; omega) rfl, cut_snoc _ (by omega) HX.out, ← HE.out, ← pcells_append]
        simp [pcells]
      clear r1 g1 r2 g2
      go_roundw
      case rel => first | exact ⟨k + 1, _, by omega, by go_num, HR2.out, HT.out, HG.out⟩ | ((repeat apply Exists.intro); exact ⟨⟨by omega, by go_num, HR2.out, HT.out, HG.out⟩, rfl⟩)
      case measure => simp [intOf]; omega
    · obtain rfl : k = n := by omega
      go_wp2_with fail
      go_ret
      refine ⟨_, rfl, ?_, HB.out⟩
      have hl : (Tree.edges ps).length = k := by rw [Tree.edges_len]; exact HLn.out
      rw [hl]
      have hx := HX.out
      rw [List.take_of_length_le (by omega), List.take_of_length_le (by omega)] at hx
      rw [← hx]
      exact HO.out
theorem infoRR : (Try.prog.info? 23).map (fun i => (i.zero, i.size, i.bytes)) = some (some (.slice none 0 0), 1, 24) := by kernel_rfl
theorem RowA.keep {F : Nat → Prop} {w w' : World} {base : Nat} {r : Option Nat} {x : Value} {l : List Int} (h : RowA w base r x l) (k : Sans F w w') (hF : ∀ j, base ≤ j → j < w.heap.size → r ≠ some j → ¬ F j) : RowA w' base r x l := by
  obtain ⟨ra, rc, h1, h2, h3, h4, h5, h6⟩ := h
  exact ⟨ra, rc, h1, h2.sans k (fun ad e => hF _ (h6 ad e).1 (h6 ad e).2.1 (h6 ad e).2.2), h3, h4, h5, fun ad e => ⟨(h6 ad e).1, Nat.lt_of_lt_of_le (h6 ad e).2.1 k.size, (h6 ad e).2.2⟩⟩
theorem row_step {X wi u : World} {R m j : Nat} {ys : List Value} {l : List Int} {z : Int} (hS : Sans (fun k => k = R) X wi) (hO : wi.ownsRow R 3 1 (.slice (some ⟨R, 0, none⟩) m m) m ys) (hy : ys.take j = zcells (l.take j)) (hj : j < m) (hl : l.take j ++ [z] = l.take (j + 1)) (hB : Below wi.heap.size wi u) :
    Sans (fun k => k = R) X (u.setCell ⟨R, j, none⟩ (.int .i64 z)) ∧ (u.setCell ⟨R, j, none⟩ (.int .i64 z)).ownsRow R 3 1 (.slice (some ⟨R, 0, none⟩) m m) m (ys.set j (.int .i64 z)) ∧ (ys.set j (.int .i64 z)).take (j + 1) = zcells (l.take (j + 1)) := by
  have hl0 := hO.1
  refine ⟨(hS.then (Sans.of_below hB)).then (Sans.of_set u ⟨R, j, none⟩ _ rfl), ((owns_below hO hB).stored j _).1, ?_⟩
  rw [cut_snoc _ (by omega) hy, ← hl, ← zcells_append]
  rfl
theorem made_row (w : World) (n : Nat) (hn : n ≤ 200) : (w.alloc (.cells (madeCells #[.int .i64 0] n) 3)).ownsRow w.heap.size 3 1 (.slice (some ⟨w.heap.size, 0, none⟩) n n) n (madeCells #[.int .i64 0] n).toList :=
  World.ownsRow_lit w _ n (Nat.le_refl _) (by unfold maxLen; omega) (by rw [size_madeCells]; omega)
theorem made_rows (w : World) (n : Nat) (hn : n ≤ 200) : (w.alloc (.cells (madeCells #[.slice none 0 0] n) 23)).ownsRow w.heap.size 23 1 (.slice (some ⟨w.heap.size, 0, none⟩) n n) n (madeCells #[.slice none 0 0] n).toList :=
  World.ownsRow_lit w _ n (Nat.le_refl _) (by unfold maxLen; omega) (by rw [size_madeCells]; omega)
theorem row_own (w : World) (R m : Nat) (ys : List Value) (l : List Int) (hO : w.ownsRow R 3 1 (.slice (some ⟨R, 0, none⟩) m m) m ys) (hy : ys.take m = zcells (l.take m)) (hl : l.length = m) (G base : Nat) (hG : G ≠ R) (hb : base ≤ R) : RowA w base (some G) (.slice (some ⟨R, 0, none⟩) m m) l := by
  have h0 := hO.1
  rw [List.take_of_length_le (by omega), List.take_of_length_le (by omega)] at hy
  subst hy
  subst hl
  obtain ⟨a, cap, e, hz, h1, h2, h3, h4⟩ := zr_of_owns hO
  simp only [Value.slice.injEq] at e
  obtain ⟨e1, _, e3⟩ := e
  subst e1 e3
  refine ⟨_, _, rfl, hz, h1, h2, h3, fun ad e => ?_⟩
  cases e
  exact ⟨hb, (hO.lt R rfl).2, fun e => hG (Option.some.inj e)⟩

set_option maxHeartbeats 2000000 in
set_option maxRecDepth 100000 in
theorem next_land {w : World} {a : Option Addr} {n c : Nat} {ps : List Int} (h : ArgZ w a n c ps) (ho : Tree.ok ps = true) :
    Calls Try.prog 26 #[.slice a n c] w fun e w' => ∃ x vs, e = .returned x ∧ Rb w' w.heap.size x (Tree.rows ps).length (Tree.rows ps) vs ∧ Below w.heap.size w w' := by
  have HA : Hid (ArgZ w a n c ps) := h
  have HO : Hid (Tree.ok ps = true) := ho
  have HLn : Hid (ps.length = n) := h.z.1
  have hn := h.big
  have hn5 : n ≤ 5 := by have := (Tree.ok_parts ho).1; have := h.z.1; omega
  clear h ho
  obtain ⟨m, hm⟩ : ∃ m : Nat, n + 1 = m := ⟨_, rfl⟩
  have hmI : (n : Int) + 1 = (m : Int) := by omega
  have hm6 : m ≤ 6 := by omega
  have hmk := run_make_row' (P := Try.prog) 27 23 (.slice none 0 0) 24 Try.underlying27 infoRR rfl .i64 .i64 m (by omega) (by omega)
  have hmi := run_make_row' (P := Try.prog) 23 3 (.int .i64 0) 8 Try.underlying23 infoI rfl .i64 .i64 m (by omega) (by omega)
  have HM : Hid ((w.alloc (.cells (madeCells #[.slice none 0 0] m) 23)).ownsRow w.heap.size 23 1 (.slice (some ⟨w.heap.size, 0, none⟩) m m) m (madeCells #[.slice none 0 0] m).toList) := made_rows w m (by omega)
  have HF : Hid (Below w.heap.size w (w.alloc (.cells (madeCells #[.slice none 0 0] m) 23))) := fresh w _
  have HMi : Hid (n + 1 = m) := hm
  clear hm
  go_enter Try.func26, Try.ntmps26
  go_wp2_with (go_at_call 24; refine (nodes_any _ _ _ _ hn).mono ?_; rintro e w1 ⟨rfl, hq⟩; obtain rfl := hq.symm; clear hq; rw [hmI])
  obtain ⟨W, hW⟩ : ∃ W, w.alloc (.cells (madeCells #[.slice none 0 0] m) 23) = W := ⟨_, rfl⟩
  rw [hW] at HM HF
  first | rw [hW] | skip
  clear hW hmk
  go_loopw [12] (fun i wr => ∃ (t : Nat) (xs : List Value), t ≤ m ∧ i = .int .i64 t ∧ wr.ownsRow w.heap.size 23 1 (.slice (some ⟨w.heap.size, 0, none⟩) m m) m xs ∧ (∀ i, i < t → RowA wr w.heap.size (some w.heap.size) (xs.getD i undef) ((Tree.rows ps).getD i [])) ∧ Below w.heap.size w wr) (fun i _ => m - (intOf i).toNat)
  case atStart => exact ⟨0, _, Nat.zero_le _, rfl, HM.out, fun i hi => by omega, HF.out⟩
  case round =>
    obtain ⟨t, xs, ht, rfl, hO, hR, hB⟩ := hrel
    obtain ⟨wt, hwt⟩ : ∃ wt, wt = wr := ⟨_, rfl⟩
    subst hwt
    have HOw : Hid (wt.ownsRow w.heap.size 23 1 (.slice (some ⟨w.heap.size, 0, none⟩) m m) m xs) := hO
    have HR : Hid (∀ i, i < t → RowA wt w.heap.size (some w.heap.size) (xs.getD i undef) ((Tree.rows ps).getD i [])) := hR
    have HB : Hid (Below w.heap.size w wt) := hB
    have hxl := hO.1
    have hszw := hB.size
    have hGlt := (hO.lt w.heap.size rfl).2
    by_cases htm : t < m
    · have htI : (t : Int) < (m : Int) := by omega
      have h0 := hO.cellAt t (by omega)
      rw [List.getElem?_eq_getElem (by omega)] at h0
      obtain ⟨z0, hz0⟩ : ∃ z, xs[t] = z := ⟨_, rfl⟩
      rw [hz0] at h0
      have f0 := hO.frozenAt t
      clear hz0 hO hR hB
      go_upto_region 6 with fail
      obtain ⟨R, hRe⟩ : ∃ R, wt.heap.size = R := ⟨_, rfl⟩
      obtain ⟨X, hX⟩ : ∃ X, (wt.setCell ⟨w.heap.size, t, none⟩ (.slice (some ⟨R, 0, none⟩) m m)).alloc (.cells (madeCells #[.int .i64 0] m) 3) = X := ⟨_, rfl⟩
      have S1 : Sans (fun k => k = w.heap.size) wt X := by rw [← hX]; exact (Sans.of_set (F := fun k => k = w.heap.size) _ ⟨w.heap.size, t, none⟩ _ rfl).then (Sans.alloc _ _)
      have O1 : X.ownsRow w.heap.size 23 1 (.slice (some ⟨w.heap.size, 0, none⟩) m m) m (xs.set t (.slice (some ⟨R, 0, none⟩) m m)) := by rw [← hX]; exact owns_below (HOw.out.stored t _).1 (fresh _ _)
      have O2 : X.ownsRow R 3 1 (.slice (some ⟨R, 0, none⟩) m m) m (madeCells #[.int .i64 0] m).toList := by
        have h := made_row (wt.setCell ⟨w.heap.size, t, none⟩ (.slice (some ⟨R, 0, none⟩) m m)) m (by omega)
        rw [hX, World.size_setCell, hRe] at h
        exact h
      have hXs : R < X.heap.size := (O2.lt R rfl).2
      have HS1 : Hid (Sans (fun k => k = w.heap.size) wt X) := S1
      have HO1 : Hid (X.ownsRow w.heap.size 23 1 (.slice (some ⟨w.heap.size, 0, none⟩) m m) m (xs.set t (.slice (some ⟨R, 0, none⟩) m m))) := O1
      have HO2 : Hid (X.ownsRow R 3 1 (.slice (some ⟨R, 0, none⟩) m m) m (madeCells #[.int .i64 0] m).toList) := O2
      have c1 := O1.cellAt t (by omega)
      rw [List.getElem?_set_self (by omega)] at c1
      have HC1 : Hid (X.cell? ⟨w.heap.size, t, none⟩ = some (.slice (some ⟨R, 0, none⟩) m m)) := c1
      have HRe : Hid (wt.heap.size = R) := hRe
      have HBX : Hid (Below w.heap.size w X) := HB.out.trans (S1.below (B := w.heap.size) (by omega) (fun k e => by omega))
      have hGR : w.heap.size < R := by omega
      first | rw [hRe] | skip
      rw [hX]
      clear hX h0 f0 S1 O1 O2 hRe hszw hGlt
      go_wp2_with fail
      clear c1
      go_loopw [26] (fun i wi => ∃ (j : Nat) (ys : List Value), j ≤ m ∧ i = .int .i64 j ∧ Sans (fun k => k = R) X wi ∧ wi.ownsRow R 3 1 (.slice (some ⟨R, 0, none⟩) m m) m ys ∧ ys.take j = zcells ((Tree.row ps t).take j)) (fun i _ => m - (intOf i).toNat)
      case atStart => exact ⟨0, _, Nat.zero_le _, rfl, Sans.refl _ _, HO2.out, by simp [zcells]⟩
      case round =>
        obtain ⟨j, ys, hj, rfl, hS, hOj, hy⟩ := hrel
        have HSj : Hid (Sans (fun k => k = R) X wr) := hS
        have HOj : Hid (wr.ownsRow R 3 1 (.slice (some ⟨R, 0, none⟩) m m) m ys) := hOj
        have HYj : Hid (ys.take j = zcells ((Tree.row ps t).take j)) := hy
        have hyl := hOj.1
        have HBj : Hid (Below w.heap.size w wr) := HBX.out.trans (hS.below (B := w.heap.size) (by omega) (fun k e => by omega))
        have htn : t ≤ n := by have := HMi.out; omega
        by_cases hjm : j < m
        · have hjI : (j : Int) < m := by omega
          have hjn : j ≤ n := by have := HMi.out; omega
          have HRt : Hid ((Tree.row ps t).take j ++ [Tree.way ps t j] = (Tree.row ps t).take (j + 1)) := Tree.row_take (ps := ps) (v := t) (j := j) (by have := HLn.out; omega)
          obtain ⟨hp1, hp6, _, hpw⟩ := Tree.path_small HO.out (v := t) (w := j) (by have := HLn.out; omega) (by have := HLn.out; omega)
          obtain ⟨L, hL⟩ : ∃ L, Tree.path ps t j = L := ⟨_, rfl⟩
          have HL : Hid (Tree.path ps t j = L) := hL
          rw [hL] at hp1 hp6 hpw
          obtain ⟨z, hz⟩ : ∃ z, Tree.way ps t j = z := ⟨_, rfl⟩
          rw [hz] at HRt hpw
          obtain ⟨k, hk⟩ : ∃ k, L.length = k := ⟨_, rfl⟩
          rw [hk] at hp1 hp6 hpw
          have HK : Hid (L.length = k) := hk
          have HPw : Hid (L.getD (min 1 (k - 1)) 0 = z) := hpw
          clear hL hz hk hpw hy hOj hS
          go_wp2_with fail
          refine (path_in (HA.out.below HBj.out) t j HO.out htn hjn).mono ?_
          rintro e w5 ⟨x5, rfl, hown5, hB5⟩
          rw [HL.out] at hown5
          obtain ⟨a5, c5, rfl, hz5, hl5, hm5, hn5', hg5⟩ := zr_of_owns hown5
          rw [HK.out] at hz5
          rw [HK.out]
          have HB5 : Hid (Below wr.heap.size wr w5) := hB5
          have cX : w5.cell? ⟨w.heap.size, t, none⟩ = some (.slice (some ⟨R, 0, none⟩) m m) := ((HSj.out.then (Sans.of_below hB5)).cell (p := ⟨w.heap.size, t, none⟩) (by simp only; omega) (by simp only; omega)).trans HC1.out
          have oR := owns_below HOj.out hB5
          have cR := oR.cellAt j (by omega)
          rw [List.getElem?_eq_getElem (by omega)] at cR
          have fR := oR.frozenAt j
          obtain ⟨y0, hy0⟩ : ∃ y, ys[j] = y := ⟨_, rfl⟩
          rw [hy0] at cR
          obtain ⟨mi, hmi0⟩ : ∃ mi, min 1 (k - 1) = mi := ⟨_, rfl⟩
          rw [hmi0] at HPw
          have hmk : mi < k := by omega
          have hmkI : (mi : Int) < (k : Int) := by omega
          have wk : IntKind.i64.wrap ((k : Int) - 1) = (k : Int) - 1 := by simp only [IntKind.wrap_i64]; omega
          have hmn : min (1 : Int) ((k : Int) - 1) = (mi : Int) := by omega
          obtain ⟨b5, o5, e5, cP⟩ := hz5.at hmk
          subst e5
          rw [HPw.out] at cP
          clear hy0 hown5 hz5 hl5 hm5 hn5' hg5 hB5 oR hp1 hp6 hmi0
          go_wp2_with fail
          go_region
          go_wp2_with fail
          go_roundw
          case rel =>
            obtain ⟨r1, r2, r3⟩ := row_step HSj.out HOj.out HYj.out hjm HRt.out HB5.out
            have d1 := r1.then (Sans.drew (F := fun k => k = R) _)
            have d2 := owns_below r2 (Below.refl _ _).drew
            first | exact ⟨j + 1, _, by omega, by go_num, d1, d2, r3⟩ | ((repeat apply Exists.intro); exact ⟨⟨by omega, by go_num, d1, d2, r3⟩, rfl⟩)
          case measure => simp [intOf]; omega
        · obtain rfl : j = m := by omega
          clear hS hOj hy
          have hl : (Tree.row ps t).length = j := by rw [Tree.row_len, HLn.out]; exact HMi.out
          have hr := row_own wr R j ys (Tree.row ps t) HOj.out HYj.out hl w.heap.size w.heap.size (by omega) (by omega)
          have HRow : Hid (RowA wr w.heap.size (some w.heap.size) (.slice (some ⟨R, 0, none⟩) j j) (Tree.row ps t)) := hr
          have ho2 := owns_sans1 HO1.out HSj.out (fun i e => by simp only [Value.ownBlock, Option.some.injEq] at e; omega)
          have HO2' : Hid (wr.ownsRow w.heap.size 23 1 (.slice (some ⟨w.heap.size, 0, none⟩) j j) j (xs.set t (.slice (some ⟨R, 0, none⟩) j j))) := ho2
          have hSS : Sans (fun k => k = w.heap.size ∨ k = R) wt wr := (HS1.out.mono (fun _ e => .inl e)).then (HSj.out.mono (fun _ e => .inr e))
          have HRs : Hid (∀ i, i < t + 1 → RowA wr w.heap.size (some w.heap.size) ((xs.set t (.slice (some ⟨R, 0, none⟩) j j)).getD i undef) ((Tree.rows ps).getD i [])) := fun i hi => by
            by_cases e : i = t
            · subst e
              have e1 : (xs.set i (.slice (some ⟨R, 0, none⟩) j j)).getD i undef = .slice (some ⟨R, 0, none⟩) j j := by
                rw [List.getD_eq_getElem?_getD, List.getElem?_set_self (by omega)]; rfl
              have e2 : (Tree.rows ps).getD i [] = Tree.row ps i := by
                have h := Tree.rows_len ps
                rw [List.getD_eq_getElem?_getD, List.getElem?_eq_getElem (by rw [h]; have := HLn.out; omega)]
                simp [Tree.rows]
              rw [e1, e2]
              exact HRow.out
            · have e1 : (xs.set t (.slice (some ⟨R, 0, none⟩) j j)).getD i undef = xs.getD i undef := by
                rw [List.getD_eq_getElem?_getD, List.getD_eq_getElem?_getD, List.getElem?_set_ne (by omega)]
              rw [e1]
              exact (HR.out i (by omega)).keep hSS (fun q h1 h2 h3 => by
                have := HRe.out
                have h4 : q ≠ w.heap.size := fun e => h3 (by rw [e])
                omega)
          clear hr ho2 hSS hl
          go_wp2_with fail
          go_roundw
          case rel => first | exact ⟨t + 1, _, by omega, by go_num, HO2'.out, HRs.out, HBj.out⟩ | ((repeat apply Exists.intro); exact ⟨⟨by omega, by go_num, HO2'.out, HRs.out, HBj.out⟩, rfl⟩)
          case measure => simp [intOf]; omega
    · obtain rfl : t = m := by omega
      clear hO hR hB hszw hGlt
      go_wp2_with fail
      go_ret
      have hl : (Tree.rows ps).length = t := by rw [Tree.rows_len, HLn.out]; exact HMi.out
      exact ⟨_, xs, rfl, by rw [hl]; exact ⟨HOw.out, by omega, hl, HR.out⟩, HB.out⟩
end Go.Proofs.Ytipdcpekepiphaa
