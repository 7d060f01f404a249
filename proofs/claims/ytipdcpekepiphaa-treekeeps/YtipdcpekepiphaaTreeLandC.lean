/-
  Package tree as it landed: Path, of a tree and two of its nodes. Conditions: none but that the slice leads to numbers.
-/
import Derived.Test.YtipdcpekepiphaaTreeLandB
import Derived.Sort.CutIn
namespace Go.Proofs.Ytipdcpekepiphaa
open Go.ChangeShapes Go.WideShapes Go.ChangeAt Go.RowKit Go.Shelf
set_option linter.unusedVariables false
attribute [local go_sem] Oper.semAt_some

theorem owns_not {w : World} {base n size D : Nat} {e : TypeId} {v : Value} {xs : List Value} {o : Option (List Deferred)} (h : w.ownsRow base e size v n xs) (hK : w.heap[D]? = some (.deferred o)) : v.ownBlock ≠ some D := by
  rcases h.2 with ⟨rfl, _⟩ | ⟨g, cap, cur, rfl, _, hg, _⟩
  · simp [Value.ownBlock]
  · intro e
    simp only [Value.ownBlock, Option.some.injEq] at e
    subst e
    rw [hg] at hK
    cases hK
set_option maxHeartbeats 2000000 in
set_option maxRecDepth 100000 in
theorem path_in {w : World} {a : Option Addr} {n c : Nat} {ps : List Int} (h : ArgZ w a n c ps) (v u : Nat) (ho : Tree.ok ps = true) (hv : v ≤ n) (hu : u ≤ n) :
    Calls Try.prog 14 #[.slice a n c, .int .i64 (v : Nat), .int .i64 (u : Nat)] w fun e w' => ∃ x, e = .returned x ∧ w'.ownsRow w.heap.size 3 1 x (Tree.path ps v u).length (zcells (Tree.path ps v u)) ∧ Below w.heap.size w w' := by
  refine (callsIn_wide (n := 8)).1 ?_
  refine callsIn_of_wp_marks Try.func14 rfl trivial ?_ rfl
  simp only [Try.ntmps14, List.size_toArray, List.length_cons, List.length_nil, Nat.reduceAdd, Nat.reduceSub, Array.replicate_succ, Array.replicate_zero, List.push_toArray, List.append_toArray, List.nil_append, List.cons_append]
  have HZ : Hid (Zr w a n ps) := h.z
  have hn := h.big
  have HLn : Hid (ps.length = n) := h.z.1
  have HO : Hid (Tree.ok ps = true) := ho
  obtain ⟨UA, hUA⟩ : ∃ U, Tree.ups ps 6 v = U := ⟨_, rfl⟩
  obtain ⟨UB, hUB⟩ : ∃ U, Tree.ups ps 6 u = U := ⟨_, rfl⟩
  have hme := Tree.meet_path ho (v := v) (w := u) (by rw [h.z.1]; exact hv) (by rw [h.z.1]; exact hu)
  rw [hUA, hUB] at hme
  have HMe : Hid ((∃ y ∈ UA, y ∈ UB) ∧ Tree.meet UA UB = Tree.path ps v u) := hme
  have H2 : Hid (Tree.isNode ps (v : Int) = true) := by
    show _ = _
    unfold Tree.isNode
    rw [h.z.1, Bool.and_eq_true, decide_eq_true_eq, decide_eq_true_eq]
    omega
  have H3 : Hid (Tree.isNode ps (u : Int) = true) := by
    show _ = _
    unfold Tree.isNode
    rw [h.z.1, Bool.and_eq_true, decide_eq_true_eq, decide_eq_true_eq]
    omega
  have hlA : UA.length ≤ 7 := by rw [← hUA]; exact Tree.ups_len ps 6 v
  have hlB : UB.length ≤ 7 := by rw [← hUB]; exact Tree.ups_len ps 6 u
  have HUA : Hid (Tree.ups ps 6 v = UA) := hUA
  have HUB : Hid (Tree.ups ps 6 u = UB) := hUB
  have hB0 : Below w.heap.size w ((w.alloc (.cells #[.slice a n c] 23)).alloc (.cells #[.int .i64 (u : Nat)] 3)) := ((Below.refl _ w).alloc (Nat.le_refl _) _).alloc (by simp) _
  have HZ2 : Hid (Zr ((w.alloc (.cells #[.slice a n c] 23)).alloc (.cells #[.int .i64 (u : Nat)] 3)) a n ps) := HZ.out.below hB0
  clear h ho hme hUA hUB hB0
  gi_wp2
  refine twpIn_scope_wide ?_
  gi_wp2_with (first | (refine ⟨trivial, ?_⟩; gi_at_call 23; refine (callsIn_wide.2 (isTree_any HZ2.out hn)).mono ?_; rintro e w1 ⟨rfl, hq⟩; obtain rfl := hq.symm; clear hq; rw [HO.out]) | (refine ⟨trivial, ?_⟩; gi_at_call 28; refine (callsIn_wide.2 (isNode_any _ _ _ _ hn ps HLn.out _)).mono ?_; rintro e w1 ⟨rfl, hq⟩; obtain rfl := hq.symm; clear hq; (first | rw [H2.out] | rw [H3.out])))
  refine wpIn_label ?_
  gi_wp2_with (refine ⟨trivial, ?_⟩; gi_at_call 29; refine (anc_in Fence.wide trivial rfl (8 - 1) a n c (v : Int) _).mono ?_; rintro e w' ⟨rfl, rfl⟩)
  obtain ⟨W0, hW0⟩ : ∃ W0, ((((((w.alloc (.cells #[.slice a n c] 23)).alloc (.cells #[.int .i64 (u : Nat)] 3)).alloc (.cells #[.slice none 0 0] 23)).alloc (.cells #[.slice none 0 0] 23)).alloc (.cells #[.slice a n c] 23)).alloc (.cells #[.int .i64 (v : Nat)] 3)) = W0 := ⟨_, rfl⟩
  have b3 : Boxed W0 w.heap.size 23 (.slice a n c) := by rw [← hW0]; exact (((((boxed_at rfl).alloc _).alloc _).alloc _).alloc _).alloc _
  have b5 : Boxed W0 (w.heap.size + 1) 3 (.int .i64 (u : Nat)) := by rw [← hW0]; exact ((((boxed_at (by simp)).alloc _).alloc _).alloc _).alloc _
  have bU0 : Boxed W0 (w.heap.size + 1 + 1) 23 (.slice none 0 0) := by rw [← hW0]; exact (((boxed_at (by simp)).alloc _).alloc _).alloc _
  have bB0 : Boxed W0 (w.heap.size + 1 + 1 + 1) 23 (.slice none 0 0) := by rw [← hW0]; exact ((boxed_at (by simp)).alloc _).alloc _
  have bP : Boxed W0 (w.heap.size + 1 + 1 + 1 + 1) 23 (.slice a n c) := by rw [← hW0]; exact (boxed_at (by simp)).alloc _
  have bV : Boxed W0 (w.heap.size + 1 + 1 + 1 + 1 + 1) 3 (.int .i64 (v : Nat)) := by rw [← hW0]; exact boxed_at (by simp)
  have hB0 : Below w.heap.size w W0 := by rw [← hW0]; exact ((((((Below.refl _ w).alloc (Nat.le_refl _) _).alloc (by simp) _).alloc (by simp; omega) _).alloc (by simp; omega) _).alloc (by simp; omega) _).alloc (by simp; omega) _
  have hsz : W0.heap.size = w.heap.size + 6 := by rw [← hW0]; simp
  rw [hW0]
  clear hW0
  obtain ⟨F0, hF0⟩ : ∃ F0 : Nat → Prop, ∀ j, F0 j ↔ (j = w.heap.size + 1 + 1 ∨ j = w.heap.size + 1 + 1 + 1 ∨ W0.heap.size ≤ j) := ⟨_, fun _ => Iff.rfl⟩
  have HZ0 : Hid (Zr W0 a n ps) := HZ.out.below hB0
  refine wpIn_rangeFunc_ownH rfl (by decide) (gf := 38) (lb := #[.pointer (some ⟨w.heap.size + 1 + 1 + 1 + 1 + 1, 0, none⟩), .pointer (some ⟨w.heap.size + 1 + 1 + 1 + 1, 0, none⟩)]) rfl trivial (enters_of Try.func38 (by kernel_rfl) rfl)
    (anc_stops (8 - 1) (by decide) (w.heap.size + 1 + 1 + 1 + 1 + 1) (w.heap.size + 1 + 1 + 1 + 1) F0 a n c ps HO.out (by rw [hF0]; omega) (fun h k => zr_keep HZ.out (fun j hj => by rw [hF0]; omega) h k) v hv W0 bV.cell bP.cell HZ0.out) (fun h k => h.then k) (sansK_b (w := W0) (fun j hj => (hF0 j).2 (.inr (.inr hj)))) (Below.refl _ _) (fun _ => rfl)
    (fun pre W => (∀ y ∈ pre, y ∉ UB) ∧ (∃ x, Boxed W (w.heap.size + 1 + 1) 23 x ∧ W.ownsRow W0.heap.size 3 1 x pre.length (zcells pre) ∧ True) ∧ (∃ x, Boxed W (w.heap.size + 1 + 1 + 1) 23 x) ∧ Sans F0 W0 W)
    (fun cd pre W => (cd = .exit 0 ∧ ∃ q x q' N1, pre = q ++ [x] ∧ (∀ y ∈ q, y ∉ UB) ∧ q' ++ [x] <+: UB ∧ (∀ y ∈ q', y ≠ x) ∧ W0.heap.size ≤ N1 ∧ N1 ≤ W.heap.size ∧ PX (w.heap.size + 1 + 1) (w.heap.size + 1 + 1 + 1) W0.heap.size N1 pre q' W) ∧ Sans F0 W0 W)
    (OwnFrom.and (ownFrom_pure _ (fun pre : List Int => ∀ y ∈ pre, y ∉ UB)) (OwnFrom.and (Own.from (holdsRow_own W0.heap.size (w.heap.size + 1 + 1) 23 3 1 (fun pre : List Int => pre.length) (fun pre => zcells pre) (fun _ _ => True)) _) (OwnFrom.and (Own.from (boxEx_own _ _) _) (ownFrom_sans (Nat.le_refl _)))))
    (fun cd => OwnFrom.and (Own.from (fun s A B row hs hg hr => by obtain ⟨h1, q, x, q', N1, h2, h3, h4, h5, h6, h8, h7⟩ := hs; exact ⟨h1, q, x, q', N1, h2, h3, h4, h5, h6, Nat.le_trans h8 hg.size, px_own _ _ _ N1 (fun _ : Unit => s) (fun _ => q') () A B row h7 hg hr⟩) _) (ownFrom_sans (Nat.le_refl _)))
    ⟨by simp, ⟨_, bU0, World.ownsRow_nil _ _ _ _, trivial⟩, ⟨_, bB0⟩, Sans.refl _ _⟩
    (fun x a' W => ∃ Bx, W0.heap.size ≤ Bx ∧ Boxed W Bx 3 (.int .i64 x) ∧ (∃ y, Boxed W (w.heap.size + 1 + 1) 23 y ∧ y.ownBlock ≠ some Bx) ∧ a' = { tmps := #[.slice a n c, .int .i64 (v : Nat), .int .i64 (u : Nat), .pointer (some ⟨w.heap.size, 0, none⟩), undef, .pointer (some ⟨w.heap.size + 1, 0, none⟩), .slice none 0 0, .pointer (some ⟨w.heap.size + 1 + 1, 0, none⟩), .pointer (some ⟨w.heap.size + 1 + 1 + 1, 0, none⟩), .pointer (some ⟨Bx, 0, none⟩), undef, .slice a n c, .bool true, .bool false, .bool false, .slice a n c, .int .i64 (v : Nat), .bool true, .bool false, .bool false, .bool false, .slice a n c, .int .i64 (u : Nat), .bool true, .bool false, .bool false, .slice a n c, .int .i64 (v : Nat), .func (.func 38) #[] #[.pointer (some ⟨w.heap.size + 1 + 1 + 1 + 1 + 1, 0, none⟩), .pointer (some ⟨w.heap.size + 1 + 1 + 1 + 1, 0, none⟩)], .int .i64 x, undef, undef, undef, undef, undef, undef, undef, undef, undef, undef, undef, undef, undef, undef, undef, undef, undef, undef, undef, undef], defers := [] })
    (fun x a' _ X Y row hs hg hr => by obtain ⟨Bx, e1, e2, ⟨y, e4, e5⟩, e3⟩ := hs; exact ⟨Bx, e1, boxed_own Bx 3 (fun (_ : Unit) => Value.int .i64 x) () X Y row e2 hg (fun r e => (hr r e).2), ⟨y, boxed_own (w.heap.size + 1 + 1) 23 (fun (_ : Unit) => y) () X Y row e4 hg (fun r e => (hr r e).2), e5⟩, e3⟩)
    ?assign ?body ?done ?stop
  case assign =>
    rintro l pre x W K ⟨hp, ⟨vu, bU, rU, -⟩, ⟨vb, bB⟩, hS⟩ hK
    gi_wp2
    exact hK _ _ ((KeepsOthers.alloc _ _).from _) (Sans.alloc _ _) ⟨hp, ⟨vu, bU.alloc _, rU.alloc _, trivial⟩, ⟨vb, bB.alloc _⟩, hS.then (Sans.alloc _ _)⟩ ⟨W.heap.size, hS.size, Boxed.new W 3 _, ⟨vu, bU.alloc _, fun e => by have := (rU.lt _ e).2; omega⟩, rfl⟩
  case body =>
    rintro l pre x a' W hl ⟨r, hr⟩ ⟨hp, ⟨vu, bU, rU, -⟩, ⟨vb, bB⟩, hS⟩ ⟨Bx, hBx, bX, ⟨vu', bU', hne⟩, rfl⟩ hlt
    obtain rfl : vu = vu' := by have e := bU.symm.trans bU'; simpa using e
    clear bU'
    rw [HUA.out] at hlt
    obtain ⟨i0, hi, hz0, hz1, hz2⟩ := info_parts infoI
    have cU := bU.cell
    have cX := bX.cell
    have hszW := hS.size
    have hUB3 : w.heap.size + 1 + 1 < W.heap.size := by omega
    gi_upto_region 7 with (gi_at_builtin; refine wpListIn_append_own _ rfl _ _ 23 rfl W0.heap.size 3 i0 (.int .i64 0) 1 8 Try.underlying23 hi hz0 hz1 hz2 rfl (by decide) _ _ _ rfl (rU.alloc _) ⟨W.heap.size, 0, none⟩ 1 1 [.int .i64 x] rfl rfl (cell_one_new _ _ _) (by simp [Value.oneCell']) (by unfold maxLen; omega) (by omega) (by simp; omega) ?_; intro v' w1 hown' hgrow _; obtain ⟨g', cap', rfl⟩ := ownsRow_succ hown'; obtain ⟨hv1, hv2, hr2, hk2, hs1, hs2⟩ := box_grow bU (by decide) rU hown' hgrow; have hc1 := hv1.cell; have hf1 := hv1.frozen; have hbB1 : Boxed w1 (w.heap.size + 1 + 1 + 1) 23 vb := boxed_sans bB hs1 (by omega); have hbB2 : Boxed (w1.setCell ⟨w.heap.size + 1 + 1, 0, none⟩ (.slice (some ⟨g', 0, none⟩) (pre.length + 1) cap')) (w.heap.size + 1 + 1 + 1) 23 vb := boxed_sans bB hs2 (by omega); have hcB2 := hbB2.cell; have hfB2 := hbB2.frozen)
    have hXb : Sans (fun j => j = w.heap.size + 1 + 1 + 1) (w1.setCell ⟨w.heap.size + 1 + 1, 0, none⟩ (.slice (some ⟨g', 0, none⟩) (pre.length + 1) cap')) ((w1.setCell ⟨w.heap.size + 1 + 1, 0, none⟩ (.slice (some ⟨g', 0, none⟩) (pre.length + 1) cap')).setCell ⟨w.heap.size + 1 + 1 + 1, 0, none⟩ (.slice none 0 0)) := Sans.of_set _ _ _ rfl
    have xU := boxed_sans hv2 hXb (by omega)
    have xR := owns_sans1 hr2 hXb (fun j e => by have := (hr2.lt j e).1; omega)
    have xB := hbB2.set (.slice none 0 0)
    have xS : Sans F0 W ((w1.setCell ⟨w.heap.size + 1 + 1, 0, none⟩ (.slice (some ⟨g', 0, none⟩) (pre.length + 1) cap')).setCell ⟨w.heap.size + 1 + 1 + 1, 0, none⟩ (.slice none 0 0)) := (hs2.mono (fun k e => (hF0 k).2 (e.elim .inl (fun e => .inr (.inr e))))).then (hXb.mono (fun k e => (hF0 k).2 (.inr (.inl e))))
    have xK := (hk2.trans (KeepsOthers.setCell _ ⟨w.heap.size + 1 + 1 + 1, 0, none⟩ (.slice none 0 0))).from W0.heap.size
    have xX0 : Boxed w1 Bx 3 (.int .i64 x) := (bX.alloc _).kept hgrow (fun e => hne e.symm)
    have xX := boxed_sans (boxed_sans xX0 (Sans.of_set (F := fun j => j = w.heap.size + 1 + 1) w1 ⟨w.heap.size + 1 + 1, 0, none⟩ (.slice (some ⟨g', 0, none⟩) (pre.length + 1) cap') rfl) (by omega)) hXb (by omega)
    rw [show zcells pre ++ [Value.int .i64 x] = zcells (pre ++ [x]) from zcells_append pre [x]] at xR
    clear hXb hv1 hv2 hr2 hk2 hs1 hs2 hc1 hf1 hbB1 hbB2 hcB2 hfB2 hown' hgrow xX0
    generalize ((w1.setCell ⟨w.heap.size + 1 + 1, 0, none⟩ (.slice (some ⟨g', 0, none⟩) (pre.length + 1) cap')).setCell ⟨w.heap.size + 1 + 1 + 1, 0, none⟩ (.slice none 0 0)) = X at xU xR xB xS xK xX ⊢
    have hSX := hS.then xS
    have c3 := (boxed_sans b3 hSX (by rw [hF0]; omega)).cell
    have c5 := (boxed_sans b5 hSX (by rw [hF0]; omega)).cell
    have h1' : 1 ≤ 8 - 1 - 1 := by decide
    gi_wp2_with (refine ⟨trivial, ?_⟩; gi_at_call 29; refine (CallsIn.inRound l (anc_in Fence.wide trivial rfl (8 - 1 - 1 - 1) a n c (u : Int) _)).mono ?_; rintro e w' ⟨rfl, rfl⟩)
    obtain ⟨Y, hY⟩ : ∃ Y, (X.alloc (.cells #[.slice a n c] 23)).alloc (.cells #[.int .i64 (u : Nat)] 3) = Y := ⟨_, rfl⟩
    have bP2 : Boxed Y X.heap.size 23 (.slice a n c) := by rw [← hY]; exact (boxed_at rfl).alloc _
    have bV2 : Boxed Y (X.heap.size + 1) 3 (.int .i64 (u : Nat)) := by rw [← hY]; exact boxed_at (by simp)
    have hBY : Below X.heap.size X Y := by rw [← hY]; exact ((Below.refl _ X).alloc (Nat.le_refl _) _).alloc (by simp) _
    have hszY : Y.heap.size = X.heap.size + 2 := by rw [← hY]; simp
    have kY : KeepsFrom W0.heap.size X Y := by rw [← hY]; exact ((KeepsOthers.alloc X _).trans (KeepsOthers.alloc _ _)).from _
    rw [hY]
    clear hY c3 c5
    have sY : Sans F0 W Y := xS.then (Sans.of_below hBY)
    have yZ : Zr Y a n ps := zr_keep HZ.out (fun j hj => by rw [hF0]; omega) HZ0.out (hS.then sY)
    have hr' : Y.heap[l]? = some (.loop r) := kY.same l _ hl (xK.same l _ hl hr rfl) rfl
    have hWX := xS.size
    obtain ⟨F1, hF1⟩ : ∃ F1 : Nat → Prop, ∀ j, F1 j ↔ (j = w.heap.size + 1 + 1 + 1 ∨ Y.heap.size ≤ j) := ⟨_, fun _ => Iff.rfl⟩
    have hF10 : ∀ j, F1 j → F0 j := fun j e => (hF0 j).2 (((hF1 j).1 e).elim (fun e => .inr (.inl e)) (fun e => .inr (.inr (by omega))))
    refine wpIn_rangeFunc_ownN (l₀ := l) (r₀ := r) rfl hr' h1' (gf := 38) (lb := #[.pointer (some ⟨X.heap.size + 1, 0, none⟩), .pointer (some ⟨X.heap.size, 0, none⟩)]) rfl trivial (enters_of Try.func38 (by kernel_rfl) rfl)
      ((anc_stops (8 - 1 - 1 - 1) (by decide) (X.heap.size + 1) X.heap.size F1 a n c ps HO.out (by rw [hF1]; omega) (fun h k => zr_keep HZ.out (fun j hj => by rw [hF1]; omega) h k) u hu Y bV2.cell bP2.cell yZ).inRound l) (fun h k => h.then k) (sansK_b (w := Y) (fun j hj => (hF1 j).2 (.inr hj))) (Below.refl _ _) (fun _ => rfl)
      (fun pre' V => (∀ y ∈ pre', y ≠ x) ∧ PX (w.heap.size + 1 + 1) (w.heap.size + 1 + 1 + 1) W0.heap.size Y.heap.size (pre ++ [x]) pre' V ∧ Boxed V Bx 3 (.int .i64 x) ∧ Sans F1 Y V ∧ KeepsFrom W0.heap.size W V)
      (fun cd pre' V => (cd = .exit 0 ∧ ∃ q', pre' = q' ++ [x] ∧ (∀ y ∈ q', y ≠ x) ∧ PX (w.heap.size + 1 + 1) (w.heap.size + 1 + 1 + 1) W0.heap.size Y.heap.size (pre ++ [x]) q' V) ∧ Sans F1 Y V ∧ KeepsFrom W0.heap.size W V)
      (OwnFrom.and (ownFrom_pure _ (fun pre' : List Int => ∀ y ∈ pre', y ≠ x)) (OwnFrom.and (Own.from (px_own _ _ _ _ (fun _ => pre ++ [x]) (fun pre' => pre')) _) (OwnFrom.and (Own.from (boxed_own Bx 3 (fun _ => Value.int .i64 x)) _) (OwnFrom.and (ownFrom_sans (Nat.le_refl _)) (ownFrom_keepsFrom (by omega))))))
      (fun cd => OwnFrom.and (Own.from (fun s A B row hs hg hr => by obtain ⟨h1, q', h2, h3, h4⟩ := hs; exact ⟨h1, q', h2, h3, px_own _ _ _ _ (fun _ : Unit => pre ++ [x]) (fun _ => q') () A B row h4 hg hr⟩) _) (OwnFrom.and (ownFrom_sans (Nat.le_refl _)) (ownFrom_keepsFrom (by omega))))
      ⟨by simp, ⟨⟨_, boxed_sans xU (Sans.of_below (F := fun _ => False) hBY) (fun e => e), by rw [List.length_append]; exact owns_sans1 xR (Sans.of_below (F := fun _ => False) hBY) (fun _ _ e => e), fun j e => by have := (xR.lt j e).2; omega⟩, ⟨_, boxed_sans xB (Sans.of_below (F := fun _ => False) hBY) (fun e => e), World.ownsRow_nil _ _ _ _, trivial⟩⟩, boxed_sans xX (Sans.of_below (F := fun _ => False) hBY) (fun e => e), Sans.refl _ _, xK.trans kY⟩
      (fun y a'' _ => a'' = { tmps := #[.slice a n c, .int .i64 (v : Nat), .int .i64 (u : Nat), .pointer (some ⟨w.heap.size, 0, none⟩), undef, .pointer (some ⟨w.heap.size + 1, 0, none⟩), .slice none 0 0, .pointer (some ⟨w.heap.size + 1 + 1, 0, none⟩), .pointer (some ⟨w.heap.size + 1 + 1 + 1, 0, none⟩), .pointer (some ⟨Bx, 0, none⟩), .int .i64 y, .slice a n c, .bool true, .bool false, .bool false, .slice a n c, .int .i64 (v : Nat), .bool true, .bool false, .bool false, .bool false, .slice a n c, .int .i64 (u : Nat), .bool true, .bool false, .bool false, .slice a n c, .int .i64 (v : Nat), .func (.func 38) #[] #[.pointer (some ⟨w.heap.size + 1 + 1 + 1 + 1 + 1, 0, none⟩), .pointer (some ⟨w.heap.size + 1 + 1 + 1 + 1, 0, none⟩)], .int .i64 x, vu, .int .i64 x, .slice (some ⟨W.heap.size, 0, none⟩) 1 1, .slice (some ⟨g', 0, none⟩) (pre.length + 1) cap', .slice a n c, .int .i64 (u : Nat), .func (.func 38) #[] #[.pointer (some ⟨X.heap.size + 1, 0, none⟩), .pointer (some ⟨X.heap.size, 0, none⟩)], .int .i64 y, undef, undef, undef, undef, undef, undef, undef, undef, undef, undef, undef, undef], defers := [] })
      (fun _ _ _ _ _ _ hs _ _ => hs)
      ?assign2 ?body2 ?done2 ?stop2
    case assign2 =>
      rintro l2 pre' y V K hi hK
      gi_wp2
      exact hK _ _ (KeepsFrom.refl _ _) (Sans.refl _ _) hi rfl
    case body2 =>
      rintro l2 pre' y a'' V _ _ ⟨hq, ⟨⟨vu2, bU2, rU2, hj2⟩, ⟨vb2, bB2, rB2, -⟩⟩, bX2, hSV, hKF⟩ rfl hlt2
      rw [HUB.out] at hlt2
      have cX2 := bX2.cell
      have cB2 := bB2.cell
      have hVY := hSV.size
      have hBxY := xX.lt
      by_cases hxy : y = x
      · have hp3 : PX (w.heap.size + 1 + 1) (w.heap.size + 1 + 1 + 1) W0.heap.size Y.heap.size (pre ++ [x]) pre' V := ⟨⟨vu2, bU2, rU2, hj2⟩, ⟨vb2, bB2, rB2, trivial⟩⟩
        have HP3 : Hid _ := hp3
        clear hp3
        subst hxy
        gi_wp2
        exact ⟨KeepsFrom.refl _ _, ⟨rfl, pre', rfl, hq, HP3.out⟩, hSV, hKF⟩
      · have e1 : (y == x) = false := by simpa using hxy
        gi_wp2_with (gi_at_builtin; refine wpListIn_append_own _ rfl _ _ 23 rfl Y.heap.size 3 i0 (.int .i64 0) 1 8 Try.underlying23 hi hz0 hz1 hz2 rfl (by decide) _ _ _ rfl (rB2.alloc _) ⟨V.heap.size, 0, none⟩ 1 1 [.int .i64 y] rfl rfl (cell_one_new _ _ _) (by simp [Value.oneCell']) (by unfold maxLen; omega) (by omega) (by simp; omega) ?_; intro v'' w2 hown2 hgrow2 _; obtain ⟨g2, cap2, rfl⟩ := ownsRow_succ hown2; obtain ⟨hv3, hv4, hr4, hk4, hs3, hs4⟩ := box_grow bB2 (by decide) rB2 hown2 hgrow2; have hc3 := hv3.cell; have hf3 := hv3.frozen)
        have hs5 := hs4.mono (G := F1) (fun k e => (hF1 k).2 e)
        refine ⟨hk4.from _, hs5, ⟨fun z hz => (List.mem_append.1 hz).elim (hq z) (fun e => by simp at e; subst e; exact hxy), ⟨⟨vu2, boxed_sans bU2 hs5 (by rw [hF1]; omega), owns_sans1 rU2 hs5 (fun j e => by have h1 := hj2 j e; have h2 := (rU2.lt j e).1; rw [hF1]; omega), hj2⟩, ⟨_, hv4, ?_, trivial⟩⟩, boxed_sans bX2 hs5 (by rw [hF1]; omega), hSV.then hs5, hKF.trans (hk4.from _)⟩⟩
        rw [List.length_append, ← zcells_append]
        exact hr4
    case done2 =>
      rintro ys V hys ⟨hq, ⟨⟨vu2, bU2, rU2, hj2⟩, ⟨vb2, bB2, rB2, -⟩⟩, bX2, hSV, hKF⟩
      rw [HUB.out] at hys
      subst hys
      have sV : Sans F0 W V := sY.then (hSV.mono hF10)
      gi_wp2
      exact ⟨hKF, sV, fun z hz => (List.mem_append.1 hz).elim (hp z) (fun e hin => by simp at e; subst e; exact hq _ hin rfl), ⟨vu2, bU2, rU2, trivial⟩, ⟨vb2, bB2⟩, hS.then sV⟩
    case stop2 =>
      rintro cd pre' V hpre ⟨⟨rfl, q', rfl, hq', hPX⟩, hSV, hKF⟩
      rw [HUB.out] at hpre
      have sV : Sans F0 W V := sY.then (hSV.mono hF10)
      gi_wp2
      exact ⟨hKF, ⟨rfl, pre, x, q', Y.heap.size, rfl, hp, hpre, hq', by omega, hSV.size, hPX⟩, hS.then sV⟩
  case done =>
    rintro D ys W hD hys ⟨hp, _⟩ hK
    obtain ⟨y, h1, h2⟩ := HMe.out.1
    exact absurd h2 (hp y (by rw [hys, HUA.out]; exact h1))
  case stop =>
    rintro D cd pre W hD hpre ⟨⟨rfl, q, x, q', N1, rfl, hq, hb, hq', hN, hN2, ⟨vu, bU, rU, hj⟩, ⟨vb, bB, rB, -⟩⟩, hS⟩ hK
    rw [HUA.out] at hpre
    have hfin := (Tree.meet_is hpre hq hb hq').trans HMe.out.2
    have HFin : Hid (q ++ [x] ++ q'.reverse = Tree.path ps v u) := hfin
    have hlq : (q ++ [x]).length ≤ 7 := Nat.le_trans hpre.length_le hlA
    have hlq' : q'.length ≤ 7 := by have := hb.length_le; rw [List.length_append] at this; omega
    clear hfin hq hb hq' hpre
    have cB := bB.cell
    have cU := bU.cell
    have hs0 : w.heap.size ≤ W.heap.size := by have := hS.size; omega
    obtain ⟨a2, c2, hv2, hz2, hle2, hcm2, hnil2, _⟩ := zr_of_owns rB
    subst hv2
    have HRB : Hid (W.ownsRow N1 3 1 (.slice a2 q'.length c2) q'.length (zcells q')) := rB
    clear hz2
    gi_upto_region 12 with (refine ⟨trivial, ?_⟩; gi_at_call 30; refine (callsIn_wide.2 (rev_own HRB.out (by omega))).mono ?_; rintro e W2 ⟨rfl, hrev, hgr⟩)
    have sR : Sans (fun j => (Value.slice a2 q'.length c2).ownBlock = some j) W W2 := Sans.of_grown hgr (fun j e => e)
    have hb2 : ∀ j, (Value.slice a2 q'.length c2).ownBlock = some j → N1 ≤ j := fun j e => (rB.lt j e).1
    have bU2 := boxed_sans bU sR (fun e => by have := hb2 _ e; omega)
    have bB2 := boxed_sans bB sR (fun e => by have := hb2 _ e; omega)
    have rU2 := owns_sans1 rU sR (fun j e e' => by have := hj j e; have := hb2 j e'; omega)
    have kD2 : W2.heap[D]? = some (.deferred (some [])) := (hgr.block D (Array.getElem?_eq_some_iff.1 hK).1 (fun e => owns_not rB hK e.symm)).trans hK
    have hz3 : Zr W2 a2 q'.length q'.reverse := by
      have h := zr_of_owns (l := q'.reverse) (by rw [List.length_reverse]; exact hrev)
      obtain ⟨a3, c3, e3, hz, _⟩ := h
      simp only [Value.slice.injEq] at e3
      rw [List.length_reverse] at hz
      rw [e3.1]
      exact hz
    have hn2 : a2 = none → q'.length = 0 ∧ c2 = 0 := fun e => ⟨by have := hnil2 e; omega, hnil2 e⟩
    have cB2 := bB2.cell
    have cU2 := bU2.cell
    have hB2 : Below w.heap.size w W2 := (hB0.trans (hS.below (B := w.heap.size) (by omega) (fun k e => by rw [hF0] at e; omega))).trans (sR.below (B := w.heap.size) hs0 (fun k e => by have := hb2 k e; omega))
    have hs2 : W0.heap.size ≤ W2.heap.size := Nat.le_trans hS.size sR.size
    have HB2 : Hid (Below w.heap.size w W2) := hB2
    have HR2 : Hid (W2.ownsRow W0.heap.size 3 1 vu (q ++ [x]).length (zcells (q ++ [x]))) := rU2
    have HZ3 : Hid (Zr W2 a2 q'.length q'.reverse) := hz3
    have HN2 : Hid (a2 = none → q'.length = 0 ∧ c2 = 0) := hn2
    clear hb2 sR hgr hrev HRB rB bB bU rU cB cU hz3 hn2 hB2 rU2 hj hnil2
    refine wpIn_wide.2 ?_
    go_wp2_with (at_builtin; refine wpList_append_zg rfl (.tmp 47) (.tmp 48) rfl W0.heap.size vu (q ++ [x]) rfl HR2.out hs2 a2 q'.length c2 q'.reverse rfl HZ3.out HN2.out (by omega) _ HFin.out ?_; intro v4 w4 hown4 hgr4)
    gi_wp2
    have kD4 : w4.heap[D]? = some (.deferred (some [])) := (hgr4.block D (Array.getElem?_eq_some_iff.1 kD2).1 (fun e => owns_not HR2.out kD2 e.symm)).trans kD2
    have hB4 : Below w.heap.size w w4 := HB2.out.grown hgr4 (Nat.le_trans hB0.size hs2) (fun k e => by have := (HR2.out.lt k e).1; omega)
    refine ⟨by simp, .inl ⟨_, _, rfl, run_takeDeferred kD4, ?_⟩⟩
    exact ⟨_, results_tmp rfl _ _ _, _, rfl, owns_mono (ownsRow_putObj hown4 _ kD4 rfl) (by omega), hB4.trans (belowK_b (w := w) (Nat.le_refl _) _ D _ _ (by omega) kD4 rfl rfl)⟩
end Go.Proofs.Ytipdcpekepiphaa
