/-
  Contracts and plain facts that the walks lean on (RouteLandF, PlanC). Conditions: none but those that each states.
-/
import Derived.Test.YtniicgbkeifnjaaGreatDoorQ25
import Derived.Laws.EntriesVeiled
import Derived.Sort.Grow
namespace Go.Proofs.YtniicgbkeifnjaaGreatDoor
open Go.ChangeShapes Go.WideShapes Go.ChangeAt Go.RowKit
set_option linter.unusedVariables false
set_option maxRecDepth 100000
theorem round_boxes (w : World) (a : Option Addr) (n c : Nat) (hn : n ≤ 36) (X : World) (hX : (((w.alloc (.cells #[.slice a n c] 29)).alloc (.cells (madeCells #[.int .i64 0] n) 3)).alloc (.cells #[.slice (some ⟨w.heap.size + 1, 0, none⟩) n n] 27)).alloc (.cells #[.nilFunc] 106) = X) :
    Below w.heap.size w X ∧ X.cell? ⟨w.heap.size, 0, none⟩ = some (.slice a n c) ∧ X.ownsRow (w.heap.size + 1) 3 1 (.slice (some ⟨w.heap.size + 1, 0, none⟩) n n) n (zcells (List.replicate n 0)) ∧ X.cell? ⟨w.heap.size + 1 + 1, 0, none⟩ = some (.slice (some ⟨w.heap.size + 1, 0, none⟩) n n) ∧ X.cell? ⟨w.heap.size + 1 + 1 + 1, 0, none⟩ = some .nilFunc ∧ X.frozen? ⟨w.heap.size + 1 + 1 + 1, 0, none⟩ = false := by
  subst hX
  have s1 : (w.alloc (.cells #[.slice a n c] 29)).heap.size = w.heap.size + 1 := by simp
  have c1 : (w.alloc (.cells #[.slice a n c] 29)).cell? ⟨w.heap.size, 0, none⟩ = some (.slice a n c) := by simp
  have b1 := fresh w (.cells #[.slice a n c] 29)
  generalize w.alloc _ = w1 at s1 c1 b1 ⊢
  have o2 : (w1.alloc (.cells (madeCells #[.int .i64 0] n) 3)).ownsRow w1.heap.size 3 1 (.slice (some ⟨w1.heap.size, 0, none⟩) n n) n (madeCells #[.int .i64 0] n).toList := World.ownsRow_lit w1 _ n (Nat.le_refl _) (by unfold maxLen; omega) (by rw [size_madeCells]; omega)
  have s2 : (w1.alloc (.cells (madeCells #[.int .i64 0] n) 3)).heap.size = w1.heap.size + 1 := by simp
  have b2 := fresh w1 (.cells (madeCells #[.int .i64 0] n) 3)
  rw [zcells_zero] at o2
  generalize w1.alloc _ = w2 at s2 o2 b2 ⊢
  have s3 : (w2.alloc (.cells #[.slice (some ⟨w.heap.size + 1, 0, none⟩) n n] 27)).heap.size = w2.heap.size + 1 := by simp
  have c3 : (w2.alloc (.cells #[.slice (some ⟨w.heap.size + 1, 0, none⟩) n n] 27)).cell? ⟨w2.heap.size, 0, none⟩ = some (.slice (some ⟨w.heap.size + 1, 0, none⟩) n n) := by simp
  have b3 := fresh w2 (.cells #[.slice (some ⟨w.heap.size + 1, 0, none⟩) n n] 27)
  generalize w2.alloc _ = w3 at s3 c3 b3 ⊢
  have c4 : (w3.alloc (.cells #[.nilFunc] 106)).cell? ⟨w3.heap.size, 0, none⟩ = some .nilFunc := by simp
  have f4 : (w3.alloc (.cells #[.nilFunc] 106)).frozen? ⟨w3.heap.size, 0, none⟩ = false := by unfold World.frozen?; rw [World.alloc_heap_new]; rfl
  have b4 := fresh w3 (.cells #[.nilFunc] 106)
  rw [s3, s2, s1] at c4 f4
  rw [s2, s1] at c3
  rw [s1] at o2
  refine ⟨later (later (later b1 b2) b3) b4, ?_, owns_below (owns_below o2 b3) b4, ?_, c4, f4⟩
  · exact (b4.cell (p := ⟨w.heap.size, 0, none⟩) (by show w.heap.size < _; omega)).trans ((b3.cell (p := ⟨w.heap.size, 0, none⟩) (by show w.heap.size < _; omega)).trans ((b2.cell (p := ⟨w.heap.size, 0, none⟩) (by show w.heap.size < _; omega)).trans c1))
  · exact (b4.cell (p := ⟨w.heap.size + 1 + 1, 0, none⟩) (by show w.heap.size + 1 + 1 < _; omega)).trans c3
set_option maxHeartbeats 4000000 in
set_option maxRecDepth 100000 in
theorem goround_any {w : World} {a : Option Addr} {n c : Nat} {W : List (List Int)} (h : Mr w a n W) (hF : Route.Fit W) (hn : n ≤ 36) :
    Calls Tryz.prog 89 #[.slice a n c] w fun e w' => ∃ b : Bool, e = .returned (.bool b) ∧ (b = true → ∃ i, Route.Plus W i i) ∧ (b = false → ∀ i, ¬ Route.Plus W i i) ∧ Below w.heap.size w w' := by
  have HM : Hid (Mr w a n W) := h
  have HF : Hid (Route.Fit W) := hF
  have HW : Hid (W.length = n) := h.1
  have HBx : Hid _ := round_boxes w a n c hn
  clear h hF
  have hmf : ∀ (fn : Fn) (first cap : Array Value) (w : World), (Instr.makeFunc fn first cap).run Tryz.prog w = .ok (.func fn first cap) w := fun _ _ _ _ => rfl
  have hmk := run_make_row' (P := Tryz.prog) 27 3 (.int .i64 0) 8 Tryz.underlying27 infoI rfl .i64 .i64 n (by omega) (by omega)
  go_enter Tryz.func89, Tryz.ntmps89
  go_upto_region 3 with fail
  obtain ⟨hB, k1, k2, k3, k4, k5⟩ := HBx.out _ rfl
  have HB : Hid _ := hB
  have HO : Hid _ := k2
  have HC : Hid (_ ∧ _) := ⟨k1, k3⟩
  clear hB k1 k2 k3 HBx hmk
  generalize World.alloc _ _ = X at HB HO HC k4 k5 ⊢
  obtain ⟨bw, hbw⟩ : ∃ g, w.heap.size = g := ⟨_, rfl⟩
  have HBw : Hid (w.heap.size = bw) := hbw
  rw [hbw] at HB HO HC k4 k5 ⊢
  obtain ⟨g, hg⟩ : ∃ g, bw + 1 = g := ⟨_, rfl⟩
  rw [hg] at HO HC k4 k5 ⊢
  obtain ⟨bm, hbm⟩ : ∃ x, g + 1 = x := ⟨_, rfl⟩
  rw [hbm] at HC k4 k5 ⊢
  obtain ⟨bf, hbf⟩ : ∃ x, bm + 1 = x := ⟨_, rfl⟩
  rw [hbf] at k4 k5 ⊢
  have HN : Hid (bw + 1 = g ∧ g + 1 = bm ∧ bm + 1 = bf) := ⟨hg, hbm, hbf⟩
  have HA : Hid (Apart w bm bw bf g) := ⟨by omega, by omega, by omega, by omega⟩
  clear hbw hg hbm hbf
  go_upto_region 4 with fail
  have HS : Hid (Sea w bm bw bf g n a c (List.replicate n 0) (X.setCell ⟨bf, 0, none⟩ (.func (Fn.func 147) #[] #[.pointer (some ⟨bm, 0, none⟩), .pointer (some ⟨bw, 0, none⟩), .pointer (some ⟨bf, 0, none⟩)]))) := by
    have s : Sans (fun j => j = bf) X (X.setCell ⟨bf, 0, none⟩ (.func (Fn.func 147) #[] #[.pointer (some ⟨bm, 0, none⟩), .pointer (some ⟨bw, 0, none⟩), .pointer (some ⟨bf, 0, none⟩)])) := Sans.of_set _ _ _ rfl
    have hh := HN.out
    have hb := HB.out
    rw [← HBw.out] at hb
    exact ⟨hb.trans (s.below (B := w.heap.size) hb.size (fun j e => by have := HBw.out; omega)), (s.cell (p := ⟨bm, 0, none⟩) (cell_lt HC.out.2) (by show ¬ bm = bf; omega)).trans HC.out.2, (s.cell (p := ⟨bw, 0, none⟩) (cell_lt HC.out.1) (by show ¬ bw = bf; omega)).trans HC.out.1, World.cell?_setCell_same _ _ _ k4, owns_s1 HO.out s (fun j e => by simp only [Value.ownBlock, Option.some.injEq] at e; omega)⟩
  clear k4 k5 HB HO HC hmf
  generalize World.setCell _ _ _ = Y at HS ⊢
  have q0 := HS.out.cw
  go_wp2_with fail
  clear q0
  go_loopw [12] (fun i wr => ∃ (k : Nat) (M : List Int), k ≤ n ∧ i = .int .i64 k ∧ Sea w bm bw bf g n a c M wr ∧ Route.Dfs W M ∧ (∀ i, M.getD i 0 ≠ 1) ∧ (∀ t, t < k → M.getD t 0 = 2)) (fun i _ => n - (intOf i).toNat)
  case atStart =>
    have h := Route.dfs_start W
    rw [HW.out] at h
    exact ⟨0, _, Nat.zero_le _, rfl, HS.out, h, fun i e => by
      rw [List.getD_eq_getElem?_getD, List.getElem?_replicate] at e
      split at e <;> simp at e, fun t ht => by omega⟩
  case round =>
    obtain ⟨k, M, hk, rfl, hS, hD, hno, hall⟩ := hrel
    have HSk : Hid (Sea w bm bw bf g n a c M wr) := hS
    have HD : Hid (Route.Dfs W M) := hD
    have HNo : Hid (∀ i, M.getD i 0 ≠ 1) := hno
    have HAll : Hid (∀ t, t < k → M.getD t 0 = 2) := hall
    have q4 := hS.cf
    clear hS hD hno hall
    by_cases hkn : k < n
    · have HCall : Hid _ := searches_all HA.out HM.out HF.out hn (Route.zs M) wr M k HSk.out HD.out hkn (fun i hi => absurd hi (HNo.out i)) (Nat.le_refl _)
      go_wp2_with (go_at_call 147; refine Calls.mono HCall.out ?_; rintro e w3 ⟨b, rfl, ht, hf, hs3⟩; have HT : Hid _ := ht; have HFl : Hid _ := hf; have HS3 : Hid (Sans (fun j => j = g) wr w3) := hs3; clear ht hf hs3; cases b)
      · obtain ⟨M3, h3, h4, h5⟩ := HFl.out (by trivial)
        have HR : Hid (Sea w bm bw bf g n a c M3 w3 ∧ Route.Dfs W M3 ∧ (∀ i, M3.getD i 0 ≠ 1) ∧ (∀ t, t < k + 1 → M3.getD t 0 = 2)) := ⟨h5, h3.dfs, fun i hi => HNo.out i ((h3.opn i).1 hi), fun t ht => by
          by_cases e : t = k
          · rw [e]; exact h4
          · exact h3.shut t (HAll.out t (by omega))⟩
        clear h3 h4 h5 HFl HT
        go_wp2_with fail
        go_roundw
        case rel => first | exact ⟨k + 1, M3, by omega, by go_num, HR.out⟩ | ((repeat apply Exists.intro); exact ⟨⟨k + 1, M3, by omega, by go_num, HR.out⟩, rfl⟩)
        case measure => simp [intOf]; omega
      · have HTx : Hid (∃ i, Route.Plus W i i) := HT.out (by trivial)
        have HBe : Hid (Below w.heap.size w w3) := HSk.out.bel.trans (HS3.out.below (B := w.heap.size) HSk.out.bel.size (fun j e => by have := HA.out.hi; omega))
        clear HFl HT
        go_wp2_with fail
        go_ret
        exact ⟨true, rfl, fun _ => HTx.out, fun e => (by cases e), HBe.out⟩
    · obtain rfl : k = n := by omega
      have HR : Hid (∀ i, ¬ Route.Plus W i i) := fun i hi => by
        obtain ⟨j, e, _⟩ := hi.turn
        exact HD.out.calm i (HAll.out i (by have := e.1; have := HW.out; omega)) hi
      go_wp2_with fail
      go_ret
      exact ⟨false, rfl, fun e => (by cases e), fun _ => HR.out, HSk.out.bel⟩
end Go.Proofs.YtniicgbkeifnjaaGreatDoor
namespace Go.Proofs.YtniicgbkeifnjaaGreatDoor
open Go.ChangeShapes Go.WideShapes Go.ChangeAt Go.RowKit
set_option linter.unusedVariables false
set_option maxRecDepth 100000
namespace Plan
def cmp1 (x y : Int) : Int := if x < y then -1 else if y < x then 1 else 0
def cmp2 (x y : Int × Int) : Int := if cmp1 x.1 y.1 ≠ 0 then cmp1 x.1 y.1 else cmp1 x.2 y.2
theorem cmp1_zero (x y : Int) : cmp1 x y = 0 ↔ x = y := by unfold cmp1; split <;> (try split) <;> omega
theorem cmp1_neg (x y : Int) : cmp1 x y < 0 ↔ x < y := by unfold cmp1; split <;> (try split) <;> omega
theorem cmp2_neg (x y : Int × Int) : cmp2 x y < 0 ↔ x.1 < y.1 ∨ x.1 = y.1 ∧ x.2 < y.2 := by
  have h1 := cmp1_zero x.1 y.1
  have h2 := cmp1_neg x.1 y.1
  have h3 := cmp1_neg x.2 y.2
  unfold cmp2
  split <;> omega
def goodB (N : Int) (e : Int × Int) : Bool := decide (0 ≤ e.1) && decide (e.1 < e.2) && decide (e.2 < N)
theorem goodB_eq (N A B : Int) : goodB N (A, B) = (bnd B 1 (N - 1) && bnd A 0 (B - 1)) := by
  unfold goodB bnd
  rw [Bool.eq_iff_iff]
  simp only [Bool.and_eq_true, decide_eq_true_eq]
  omega
theorem all_goodB {N : Int} {es : List (Int × Int)} (h : ∀ j, j < es.length → goodB N (edge es j) = true) : es.all (goodB N) = true := by
  rw [List.all_eq_true]
  intro x hx
  obtain ⟨j, hj, rfl⟩ := mem_edge hx
  exact h j hj
theorem not_all_goodB {N : Int} {es : List (Int × Int)} {k : Nat} (hk : k < es.length) (h : goodB N (edge es k) = false) : es.all (goodB N) = false := by
  rw [List.all_eq_false]
  exact ⟨edge es k, edge_mem hk, by rw [h]; exact Bool.false_ne_true⟩
end Plan
theorem isnan_any (x : Int) (w : World) :
    Calls Tryz.prog 237 #[.int .i64 x] w fun e w' => e = .returned (.bool false) ∧ w' = w := by
  go_enter Tryz.func237, Tryz.ntmps237
  go_wp2_with fail
  go_ret
  exact ⟨by simp, rfl⟩
theorem compare_any (x y : Int) (w : World) :
    Calls Tryz.prog 224 #[.int .i64 x, .int .i64 y] w fun e w' => e = .returned (.int .i64 (Plan.cmp1 x y)) ∧ w' = w := by
  by_cases h1 : x < y
  · have e : Plan.cmp1 x y = -1 := by unfold Plan.cmp1; rw [if_pos h1]
    rw [e]
    go_enter Tryz.func224, Tryz.ntmps224
    go_wp2_with (go_at_call 237; refine (isnan_any _ _).mono ?_; rintro e w' ⟨rfl, rfl⟩)
    go_ret
    exact ⟨rfl, rfl⟩
  · by_cases h2 : y < x
    · have e : Plan.cmp1 x y = 1 := by unfold Plan.cmp1; rw [if_neg h1, if_pos h2]
      rw [e]
      go_enter Tryz.func224, Tryz.ntmps224
      go_wp2_with (go_at_call 237; refine (isnan_any _ _).mono ?_; rintro e w' ⟨rfl, rfl⟩)
      go_ret
      exact ⟨rfl, rfl⟩
    · have e : Plan.cmp1 x y = 0 := by unfold Plan.cmp1; rw [if_neg h1, if_neg h2]
      rw [e]
      go_enter Tryz.func224, Tryz.ntmps224
      go_wp2_with (go_at_call 237; refine (isnan_any _ _).mono ?_; rintro e w' ⟨rfl, rfl⟩)
      go_ret
      exact ⟨rfl, rfl⟩
set_option maxHeartbeats 1000000 in
theorem or_any (x y : Int) (b : Nat) (w : World) (h0 : w.cell? ⟨b, 0, none⟩ = some (.int .i64 x)) (h1 : w.cell? ⟨b, 1, none⟩ = some (.int .i64 y)) :
    Calls Tryz.prog 223 #[.slice (some ⟨b, 0, none⟩) 2 2] w fun e w' => e = .returned (.int .i64 (if x ≠ 0 then x else y)) ∧ w' = w := by
  obtain ⟨r, hr⟩ : ∃ r, (if x ≠ 0 then x else y) = r := ⟨_, rfl⟩
  rw [hr]
  have HR : Hid ((if x ≠ 0 then x else y) = r) := hr
  clear hr
  go_enter Tryz.func223, Tryz.ntmps223
  go_wp2_with fail
  go_loopw [5, 8] (fun _ i wr => ∃ k : Nat, k ≤ 2 ∧ i = .int .i64 k ∧ (1 ≤ k → x = 0) ∧ (2 ≤ k → y = 0) ∧ wr = w) (fun _ i _ => 2 - (intOf i).toNat)
  case atStart => exact ⟨0, Nat.zero_le _, rfl, fun h => by omega, fun h => by omega, rfl⟩
  case round =>
    obtain ⟨k, hk, rfl, hx, hy, rfl⟩ := hrel
    have HX : Hid (1 ≤ k → x = 0) := hx
    have HY : Hid (2 ≤ k → y = 0) := hy
    clear hx hy
    by_cases e0 : k = 0
    · subst e0
      by_cases hz : x = 0
      · have HZ : Hid (x = 0) := hz
        have hz' : (x != 0) = false := by simpa using hz
        clear hz
        go_wp2_with fail
        go_roundw
        case rel => first | exact ⟨1, by omega, rfl, fun _ => HZ.out, fun h => by omega, rfl⟩ | exact ⟨1, by omega, rfl, fun _ => HZ.out, fun h => by omega, trivial⟩ | ((repeat apply Exists.intro); exact ⟨⟨1, by omega, rfl, fun _ => HZ.out, fun h => by omega, rfl⟩, rfl⟩)
        case measure => simp [intOf]
      · have hz' : (x != 0) = true := by simpa using hz
        have HE : Hid (x = r) := by have := HR.out; rw [if_pos hz] at this; exact this
        clear hz
        go_wp2_with fail
        go_ret
        exact ⟨by rw [HE.out]; rfl, rfl⟩
    · by_cases e1 : k = 1
      · subst e1
        have hx0 : x = 0 := HX.out (by omega)
        have HX0 : Hid (x = 0) := hx0
        have hr : y = r := by have := HR.out; rw [if_neg (fun h => h hx0)] at this; exact this
        have HE : Hid (y = r) := hr
        clear hx0 hr
        by_cases hz : y = 0
        · have HZ : Hid (y = 0) := hz
          have hz' : (y != 0) = false := by simpa using hz
          clear hz
          go_wp2_with fail
          go_roundw
          case rel => first | exact ⟨2, by omega, rfl, fun _ => HX0.out, fun _ => HZ.out, rfl⟩ | exact ⟨2, by omega, rfl, fun _ => HX0.out, fun _ => HZ.out, trivial⟩ | ((repeat apply Exists.intro); exact ⟨⟨2, by omega, rfl, fun _ => HX0.out, fun _ => HZ.out, rfl⟩, rfl⟩)
          case measure => simp [intOf]
        · have hz' : (y != 0) = true := by simpa using hz
          clear hz
          go_wp2_with fail
          go_ret
          exact ⟨by rw [HE.out]; rfl, rfl⟩
      · obtain rfl : k = 2 := by omega
        have hx0 : x = 0 := HX.out (by omega)
        have hy0 : y = 0 := HY.out (by omega)
        have hr : r = 0 := by have := HR.out; rw [if_neg (fun h => h hx0), hy0] at this; exact this.symm
        have HE : Hid (r = 0) := hr
        clear hx0 hy0 hr
        go_wp2_with fail
        go_ret
        exact ⟨by rw [HE.out]; rfl, rfl⟩
theorem grow3 (W : World) (o1 o2 o3 : Obj) : (((W.alloc o1).alloc o2).drew).alloc o3 = Go.Sort.grow (W.drewN 1) #[o1, o2, o3] := by
  show ((W.drew.alloc o1).alloc o2).alloc o3 = _
  rw [Go.Sort.alloc_eq_grow, Go.Sort.alloc_eq_grow, Go.Sort.alloc_eq_grow, Go.Sort.grow_grow, Go.Sort.grow_grow]
  rfl
set_option maxHeartbeats 2000000 in
set_option maxRecDepth 100000 in
theorem cmpE_any (x y : Int × Int) (W : World) :
    Calls Tryz.prog 222 #[.agg #[.int .i64 x.1, .int .i64 x.2], .agg #[.int .i64 y.1, .int .i64 y.2]] W fun e w' => e = .returned (.int .i64 (Plan.cmp2 x y)) ∧ ∃ q os', w' = Go.Sort.grow (W.drewN q) os' := by
  obtain ⟨x1, x2⟩ := x
  obtain ⟨y1, y2⟩ := y
  have hcm : Plan.cmp2 (x1, x2) (y1, y2) = (if Plan.cmp1 x1 y1 ≠ 0 then Plan.cmp1 x1 y1 else Plan.cmp1 x2 y2) := rfl
  obtain ⟨r, hr⟩ : ∃ r, Plan.cmp2 (x1, x2) (y1, y2) = r := ⟨_, rfl⟩
  rw [hr]
  rw [hr] at hcm
  have HR : Hid (r = (if Plan.cmp1 x1 y1 ≠ 0 then Plan.cmp1 x1 y1 else Plan.cmp1 x2 y2)) := hcm
  clear hcm hr
  simp only
  obtain ⟨W2, hW2⟩ : ∃ W2, (W.alloc (.cells #[.int .i64 x1, .int .i64 x2] 43)).alloc (.cells #[.int .i64 y1, .int .i64 y2] 43) = W2 := ⟨_, rfl⟩
  have HW : Hid ((W.alloc (.cells #[.int .i64 x1, .int .i64 x2] 43)).alloc (.cells #[.int .i64 y1, .int .i64 y2] 43) = W2) := hW2
  have b0 : W2.cell? ⟨W.heap.size, 0, none⟩ = some (.int .i64 x1) := by rw [← hW2]; simp
  have b1 : W2.cell? ⟨W.heap.size, 1, none⟩ = some (.int .i64 x2) := by rw [← hW2]; simp
  have e1 : (W.alloc (.cells #[.int .i64 x1, .int .i64 x2] 43)).heap.size = W.heap.size + 1 := by simp
  have b2 : W2.cell? ⟨W.heap.size + 1, 0, none⟩ = some (.int .i64 y1) := by
    rw [← hW2]
    generalize W.alloc _ = W3 at e1 ⊢
    rw [← e1]; simp
  have b3 : W2.cell? ⟨W.heap.size + 1, 1, none⟩ = some (.int .i64 y2) := by
    rw [← hW2]
    generalize W.alloc _ = W3 at e1 ⊢
    rw [← e1]; simp
  have hs : W2.heap.size = W.heap.size + 1 + 1 := by rw [← hW2]; simp
  have HSz : Hid (W2.heap.size = W.heap.size + 1 + 1) := hs
  clear hs e1
  go_enter Tryz.func222, Tryz.ntmps222
  go_wp2_with fail
  try rw [hW2]
  clear hW2
  generalize W.heap.size + 1 = c2 at b2 b3 HSz ⊢
  generalize W.heap.size = c1 at b0 b1 ⊢
  have N0 : Hid ((W2.alloc (.cells #[.int .i64 (Plan.cmp1 x1 y1), .int .i64 (Plan.cmp1 x2 y2)] 3)).drew.cell? ⟨W2.heap.size, 0, none⟩ = some (.int .i64 (Plan.cmp1 x1 y1))) := by
    show (W2.alloc _).cell? _ = _
    simp
  have N1 : Hid ((W2.alloc (.cells #[.int .i64 (Plan.cmp1 x1 y1), .int .i64 (Plan.cmp1 x2 y2)] 3)).drew.cell? ⟨W2.heap.size, 1, none⟩ = some (.int .i64 (Plan.cmp1 x2 y2))) := by
    show (W2.alloc _).cell? _ = _
    simp
  go_region_held3 (fun w' => w'.cell? ⟨c1, 0, none⟩ = some (.int .i64 x1) ∧ w'.cell? ⟨c1, 1, none⟩ = some (.int .i64 x2) ∧ w'.cell? ⟨c2, 0, none⟩ = some (.int .i64 y1) ∧ w'.cell? ⟨c2, 1, none⟩ = some (.int .i64 y2)) (go_keep) (first | (go_at_call 224; refine (compare_any _ _ _).mono ?_; rintro e w' ⟨rfl, hq⟩; obtain rfl := hq.symm) | (go_at_call 223; refine (or_any (Plan.cmp1 x1 y1) (Plan.cmp1 x2 y2) W2.heap.size (W2.alloc (.cells #[.int .i64 (Plan.cmp1 x1 y1), .int .i64 (Plan.cmp1 x2 y2)] 3)).drew N0.out N1.out).mono ?_; rintro e w' ⟨rfl, hq⟩; obtain rfl := hq.symm; rw [← HR.out]))
  go_wp2_with fail
  go_ret
  refine ⟨rfl, 1, #[.cells #[.int .i64 x1, .int .i64 x2] 43, .cells #[.int .i64 y1, .int .i64 y2] 43, .cells #[.int .i64 (Plan.cmp1 x1 y1), .int .i64 (Plan.cmp1 x2 y2)] 3], ?_⟩
  rw [← HW.out]
  exact grow3 W _ _ _
set_option maxHeartbeats 1000000 in
theorem enone_any (A B N : Int) (b : Nat) (w : World) (hN : 2 ≤ N ∧ N ≤ 6) (hB : I64 B) (hc : w.cell? ⟨b, 0, none⟩ = some (.int .i64 N)) :
    Calls Tryz.prog 195 #[.agg #[.int .i64 A, .int .i64 B], .pointer (some ⟨b, 0, none⟩)] w fun e w' => e = .returned (.bool (!Plan.goodB N (A, B))) ∧ Below w.heap.size w w' := by
  have hc' : ∀ o, (w.alloc o).cell? ⟨b, 0, none⟩ = some (.int .i64 N) := fun o => ((fresh w o).cell (p := ⟨b, 0, none⟩) (cell_lt hc)).trans hc
  have HW : ∀ o, Hid (Below w.heap.size w (w.alloc o)) := fun o => fresh _ _
  rw [Plan.goodB_eq]
  have wn : IntKind.i64.wrap (N - 1) = N - 1 := by simp only [IntKind.wrap_i64]; omega
  obtain ⟨hB1, hB2⟩ := hB
  cases h1 : Plan.bnd B 1 (N - 1) with
  | false =>
    clear hc
    go_enter Tryz.func195, Tryz.ntmps195
    go_wp2_with (go_at_call 194; refine (within_any _ _ _ _).mono ?_; rintro e w' ⟨rfl, hq⟩; obtain rfl := hq.symm; rw [h1])
    go_ret
    exact ⟨rfl, (HW _).out⟩
  | true =>
    have hb : 1 ≤ B ∧ B ≤ N - 1 := by unfold Plan.bnd at h1; simpa using h1
    have wb : IntKind.i64.wrap (B - 1) = B - 1 := by simp only [IntKind.wrap_i64]; omega
    obtain ⟨t, ht⟩ : ∃ t, Plan.bnd A 0 (B - 1) = t := ⟨_, rfl⟩
    have HT : Hid (Plan.bnd A 0 (B - 1) = t) := ht
    rw [ht]
    clear ht hc
    go_enter Tryz.func195, Tryz.ntmps195
    go_wp2_with (first | (go_at_call_of 194 (Value.int IntKind.i64 B); refine (within_any B 1 (N - 1) _).mono ?_; rintro e w' ⟨rfl, hq⟩; obtain rfl := hq.symm; rw [h1]) | (go_at_call_of 194 (Value.int IntKind.i64 A); refine (within_any A 0 (B - 1) _).mono ?_; rintro e w' ⟨rfl, hq⟩; obtain rfl := hq.symm; rw [HT.out]))
    go_ret
    exact ⟨by cases t <;> rfl, (HW _).out⟩
set_option maxHeartbeats 2000000 in
set_option maxRecDepth 100000 in
theorem eidx_any {w : World} {a : Option Addr} {n c b : Nat} {es : List (Int × Int)} {N : Int} (h : Pr w a n es) (hn : n ≤ 8796093022208) (hi : ∀ x ∈ es, I64 x.1 ∧ I64 x.2) (hN : 2 ≤ N ∧ N ≤ 6) (hb : w.cell? ⟨b, 0, none⟩ = some (.int .i64 N)) :
    Calls Tryz.prog 219 #[.slice a n c, .func (Fn.func 195) #[] #[.pointer (some ⟨b, 0, none⟩)]] w fun e w' => ∃ z : Int, e = .returned (.int .i64 z) ∧ decide (0 ≤ z) = !(es.all (Plan.goodB N)) ∧ Below w.heap.size w w' := by
  have HZ : Hid (Pr w a n es) := h
  have HC : Hid (w.cell? ⟨b, 0, none⟩ = some (.int .i64 N)) := hb
  have HI : Hid (∀ x ∈ es, I64 x.1 ∧ I64 x.2) := hi
  have HN6 : Hid (2 ≤ N ∧ N ≤ 6) := hN
  have hln := h.1
  clear h hb hi hN
  go_enter Tryz.func219, Tryz.ntmps219
  go_wp2_with fail
  go_loopw [5, 8] (fun _ i wr => ∃ k : Nat, k ≤ n ∧ i = .int .i64 k ∧ (∀ j, j < k → Plan.goodB N (Plan.edge es j) = true) ∧ Below w.heap.size w wr) (fun _ i _ => n - (intOf i).toNat)
  case atStart => exact ⟨0, Nat.zero_le _, rfl, fun j hj => by omega, Below.refl _ _⟩
  case round =>
    obtain ⟨k, hk, rfl, hno, hB⟩ := hrel
    have HN : Hid (∀ j, j < k → Plan.goodB N (Plan.edge es j) = true) := hno
    have HB : Hid (Below w.heap.size w wr) := hB
    clear hno hB
    by_cases hkn : k < n
    · obtain ⟨b2, off, ha, hcA, hcB⟩ := (HZ.out.below HB.out).at hkn
      subst ha
      obtain ⟨⟨A, B⟩, hy⟩ : ∃ y, es.getD k (0, 0) = y := ⟨_, rfl⟩
      have HY : Hid (Plan.edge es k = (A, B)) := hy
      rw [hy] at hcA hcB
      simp only at hcA hcB
      clear hy
      have HBi : Hid (I64 B) := by
        have := (HI.out _ (Plan.edge_mem (show k < es.length by omega))).2
        rw [HY.out] at this
        exact this
      have HCw : Hid (wr.cell? ⟨b, 0, none⟩ = some (.int .i64 N)) := (HB.out.cell (p := ⟨b, 0, none⟩) (cell_lt HC.out)).trans HC.out
      cases hb : Plan.goodB N (A, B) with
      | true =>
        have HG : Hid (Plan.goodB N (A, B) = true) := hb
        go_wp2_with (go_at_call 195; refine (enone_any A B N b _ HN6.out HBi.out HCw.out).mono ?_; rintro e w' ⟨rfl, hB2⟩; rw [hb]; have HB2 : Hid (Below w.heap.size w w') := later HB.out hB2; clear hB2)
        go_roundw
        case rel =>
          have R : ∀ j, j < k + 1 → Plan.goodB N (Plan.edge es j) = true := fun j hj => by
            by_cases e : j = k
            · rw [e, HY.out]; exact HG.out
            · exact HN.out j (by omega)
          first | exact ⟨k + 1, by omega, by go_num, R, HB2.out⟩ | ((repeat apply Exists.intro); exact ⟨⟨k + 1, by omega, by go_num, R, HB2.out⟩, rfl⟩)
        case measure => simp [intOf]; omega
      | false =>
        have HF : Hid (es.all (Plan.goodB N) = false) := Plan.not_all_goodB (k := k) (by omega) (by rw [HY.out]; exact hb)
        go_wp2_with (go_at_call 195; refine (enone_any A B N b _ HN6.out HBi.out HCw.out).mono ?_; rintro e w' ⟨rfl, hB2⟩; rw [hb]; have HB2 : Hid (Below w.heap.size w w') := later HB.out hB2; clear hB2)
        go_ret
        exact ⟨(k : Int), rfl, by rw [HF.out]; exact decide_eq_true (by omega), HB2.out⟩
    · obtain rfl : k = n := by omega
      have HF : Hid (es.all (Plan.goodB N) = true) := Plan.all_goodB (fun j hj => HN.out j (by omega))
      go_wp2_with fail
      go_ret
      exact ⟨-1, rfl, by rw [HF.out]; rfl, HB.out⟩
theorem econt_any {w : World} {a : Option Addr} {n c b : Nat} {es : List (Int × Int)} {N : Int} (h : Pr w a n es) (hn : n ≤ 8796093022208) (hi : ∀ x ∈ es, I64 x.1 ∧ I64 x.2) (hN : 2 ≤ N ∧ N ≤ 6) (hb : w.cell? ⟨b, 0, none⟩ = some (.int .i64 N)) :
    Calls Tryz.prog 196 #[.slice a n c, .func (Fn.func 195) #[] #[.pointer (some ⟨b, 0, none⟩)]] w fun e w' => e = .returned (.bool (!(es.all (Plan.goodB N)))) ∧ Below w.heap.size w w' := by
  have HI := eidx_any (c := c) h hn hi hN hb
  have HI' : Hid _ := HI
  clear HI h hi hN hb
  go_enter Tryz.func196, Tryz.ntmps196
  go_wp2_with (go_at_call 219; refine Calls.mono HI'.out ?_; rintro e w' ⟨z, rfl, hz, hB⟩; have HD : Hid (decide (0 ≤ z) = !(es.all (Plan.goodB N))) := hz; have HB : Hid _ := hB; clear hz hB)
  go_ret
  exact ⟨by rw [← HD.out]; rfl, HB.out⟩
set_option maxHeartbeats 1000000 in
set_option maxRecDepth 100000 in
theorem clone_pr {w : World} {ad : Addr} {n c : Nat} {l : List (Int × Int)} (h : Pr w (some ad) n l) (hn : n ≤ 8796093022208) :
    Calls Tryz.prog 220 #[.slice (some ad) n c] w fun e w' => ∃ v, e = .returned v ∧ w'.ownsRow w.heap.size 43 2 v l.length (pcells l) ∧ Below w.heap.size w w' := by
  have q29 : ∀ (w : World) (a : Option Addr) (n c n' c' : Nat), (binOp .eql 26 (.slice a n c) (.slice none n' c')).run Tryz.prog w = .ok (.bool a.isNone) w := fun w a n c n' c' => Lib.run_eql_slice_nil w _ _ a n c n' c' Tryz.underlying26
  have HZ : Hid (Pr w (some ad) n l) := h
  clear h
  have HO : Hid ((w.alloc (.cells #[] 43)).ownsRow w.heap.size 43 2 (.slice (some ⟨w.heap.size, 0, none⟩) 0 0) 0 []) := World.ownsRow_made (base := w.heap.size) (e := 43) (size := 2) w #[] 0 (Nat.le_refl _) (by unfold maxLen; omega) (by simp)
  go_enter Tryz.func220, Tryz.ntmps220
  go_wp2_with (at_builtin; refine wpList_append_p rfl (.tmp 5) (.tmp 6) 26 43 rfl Tryz.underlying26 infoE w.heap.size (.slice (some ⟨w.heap.size, 0, none⟩) 0 0) [] rfl HO.out (by simp) (some ad) n c l rfl (HZ.out.below (fresh _ _)) (fun e => by cases e) (by simp; omega) l rfl ?_; intro v' w2 hown hB2)
  go_ret
  exact ⟨_, rfl, hown, (fresh _ _).trans hB2⟩
theorem clone_nil (w : World) (n c : Nat) :
    Calls Tryz.prog 220 #[.slice none n c] w fun e w' => e = .returned (.slice none 0 0) ∧ w' = w := by
  have q29 : ∀ (w : World) (a : Option Addr) (n c n' c' : Nat), (binOp .eql 26 (.slice a n c) (.slice none n' c')).run Tryz.prog w = .ok (.bool a.isNone) w := fun w a n c n' c' => Lib.run_eql_slice_nil w _ _ a n c n' c' Tryz.underlying26
  go_enter Tryz.func220, Tryz.ntmps220
  go_wp2_with fail
  go_ret
  exact ⟨rfl, rfl⟩
end Go.Proofs.YtniicgbkeifnjaaGreatDoor
