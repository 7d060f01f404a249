/-
  Package plan, as it landed: what one edge may be, and how two are held against each other. Conditions: none but that the plan's rows are led to.
  slices.Compact at a row of edges of the call's own: as many are left as there were just if no two side by side are the same. Conditions: none.
  Package plan, as it landed: are no two edges the same (differ)? A copy of them is sorted and compacted. Conditions: none but that the slice leads to edges.
  Package plan, as it landed: edges, and Check. Conditions: none but that the plan's rows are led to.
  Package plan, as it landed: Port, Hops; all of it is what the laws' walks ask of it. Conditions: none but that the plan's rows are led to.
-/
import Derived.Test.YtphaaolnmbadcaaPlanA
import Derived.Sort.Grow
import Derived.Deep.RegionWith
import Derived.Lib.EndianMore
import Derived.Test.YtphaaolnmbadcaaLays
import Derived.Sort.OwnSortedInts
import Derived.Shelf.SlSortCmp.WholeK
import Derived.Shelf.Small.Bits
import Derived.Test.YtphaaolnmbadcaaPlanB
import Derived.Test.YtphaaolnmbadcaaPlanSpec
import Derived.Shelf.Slices.SearchI
import Derived.Shelf.Slices.Empties
namespace Go.Proofs.Ytphaaolnmbadcaa
open Go.ChangeShapes Go.WideShapes Go.ChangeAt Go.RowKit
set_option linter.unusedVariables false

namespace Plan
def cmp1 (x y : Int) : Int := if x < y then -1 else if y < x then 1 else 0
def cmp2 (x y : Int × Int) : Int := if cmp1 x.1 y.1 ≠ 0 then cmp1 x.1 y.1 else cmp1 x.2 y.2
theorem cmp1_zero (x y : Int) : cmp1 x y = 0 ↔ x = y := by unfold cmp1; split <;> (try split) <;> omega
theorem cmp1_neg (x y : Int) : cmp1 x y < 0 ↔ x < y := by unfold cmp1; split <;> (try split) <;> omega
theorem cmp2_neg (x y : Int × Int) : cmp2 x y < 0 ↔ x.1 < y.1 ∨ x.1 = y.1 ∧ x.2 < y.2 := by
  have h1 := cmp1_zero x.1 y.1
  have h2 := cmp1_neg x.1 y.1
  have h3 := cmp1_neg x.2 y.2
  unfold cmp2
  split <;> omega
def goodB (N : Int) (e : Int × Int) : Bool := decide (0 ≤ e.1) && decide (e.1 < e.2) && decide (e.2 < N)
theorem goodB_eq (N A B : Int) : goodB N (A, B) = (bnd B 1 (N - 1) && bnd A 0 (B - 1)) := by
  unfold goodB bnd
  rw [Bool.eq_iff_iff]
  simp only [Bool.and_eq_true, decide_eq_true_eq]
  omega
theorem all_goodB {N : Int} {es : List (Int × Int)} (h : ∀ j, j < es.length → goodB N (edge es j) = true) : es.all (goodB N) = true := by
  rw [List.all_eq_true]
  intro x hx
  obtain ⟨j, hj, rfl⟩ := mem_edge hx
  exact h j hj
theorem not_all_goodB {N : Int} {es : List (Int × Int)} {k : Nat} (hk : k < es.length) (h : goodB N (edge es k) = false) : es.all (goodB N) = false := by
  rw [List.all_eq_false]
  exact ⟨edge es k, edge_mem hk, by rw [h]; exact Bool.false_ne_true⟩
end Plan
theorem isnan_any (x : Int) (w : World) :
    Calls Try.prog 79 #[.int .i64 x] w fun e w' => e = .returned (.bool false) ∧ w' = w := by
  go_enter Try.func79, Try.ntmps79
  go_wp2_with fail
  go_ret
  exact ⟨by simp, rfl⟩
theorem compare_any (x y : Int) (w : World) :
    Calls Try.prog 70 #[.int .i64 x, .int .i64 y] w fun e w' => e = .returned (.int .i64 (Plan.cmp1 x y)) ∧ w' = w := by
  by_cases h1 : x < y
  · have e : Plan.cmp1 x y = -1 := by unfold Plan.cmp1; rw [if_pos h1]
    rw [e]
    go_enter Try.func70, Try.ntmps70
    go_wp2_with (go_at_call 79; refine (isnan_any _ _).mono ?_; rintro e w' ⟨rfl, rfl⟩)
    go_ret
    exact ⟨rfl, rfl⟩
  · by_cases h2 : y < x
    · have e : Plan.cmp1 x y = 1 := by unfold Plan.cmp1; rw [if_neg h1, if_pos h2]
      rw [e]
      go_enter Try.func70, Try.ntmps70
      go_wp2_with (go_at_call 79; refine (isnan_any _ _).mono ?_; rintro e w' ⟨rfl, rfl⟩)
      go_ret
      exact ⟨rfl, rfl⟩
    · have e : Plan.cmp1 x y = 0 := by unfold Plan.cmp1; rw [if_neg h1, if_neg h2]
      rw [e]
      go_enter Try.func70, Try.ntmps70
      go_wp2_with (go_at_call 79; refine (isnan_any _ _).mono ?_; rintro e w' ⟨rfl, rfl⟩)
      go_ret
      exact ⟨rfl, rfl⟩
set_option maxHeartbeats 1000000 in
theorem or_any (x y : Int) (b : Nat) (w : World) (h0 : w.cell? ⟨b, 0, none⟩ = some (.int .i64 x)) (h1 : w.cell? ⟨b, 1, none⟩ = some (.int .i64 y)) :
    Calls Try.prog 69 #[.slice (some ⟨b, 0, none⟩) 2 2] w fun e w' => e = .returned (.int .i64 (if x ≠ 0 then x else y)) ∧ w' = w := by
  obtain ⟨r, hr⟩ : ∃ r, (if x ≠ 0 then x else y) = r := ⟨_, rfl⟩
  rw [hr]
  have HR : Hid ((if x ≠ 0 then x else y) = r) := hr
  clear hr
  go_enter Try.func69, Try.ntmps69
  go_wp2_with fail
  go_loopw [5, 8] (fun _ i wr => ∃ k : Nat, k ≤ 2 ∧ i = .int .i64 k ∧ (1 ≤ k → x = 0) ∧ (2 ≤ k → y = 0) ∧ wr = w) (fun _ i _ => 2 - (intOf i).toNat)
  case atStart => exact ⟨0, Nat.zero_le _, rfl, fun h => by omega, fun h => by omega, rfl⟩
  case round =>
    obtain ⟨k, hk, rfl, hx, hy, rfl⟩ := hrel
    have HX : Hid (1 ≤ k → x = 0) := hx
    have HY : Hid (2 ≤ k → y = 0) := hy
    clear hx hy
    by_cases e0 : k = 0
    · subst e0
      by_cases hz : x = 0
      · have HZ : Hid (x = 0) := hz
        have hz' : (x != 0) = false := by simpa using hz
        clear hz
        go_wp2_with fail
        go_roundw
        case rel => first | exact ⟨1, by omega, rfl, fun _ => HZ.out, fun h => by omega, rfl⟩ | exact ⟨1, by omega, rfl, fun _ => HZ.out, fun h => by omega, trivial⟩ | ((repeat apply Exists.intro); exact ⟨⟨1, by omega, rfl, fun _ => HZ.out, fun h => by omega, rfl⟩, rfl⟩)
        case measure => simp [intOf]
      · have hz' : (x != 0) = true := by simpa using hz
        have HE : Hid (x = r) := by have := HR.out; rw [if_pos hz] at this; exact this
        clear hz
        go_wp2_with fail
        go_ret
        exact ⟨by rw [HE.out]; rfl, rfl⟩
    · by_cases e1 : k = 1
      · subst e1
        have hx0 : x = 0 := HX.out (by omega)
        have HX0 : Hid (x = 0) := hx0
        have hr : y = r := by have := HR.out; rw [if_neg (fun h => h hx0)] at this; exact this
        have HE : Hid (y = r) := hr
        clear hx0 hr
        by_cases hz : y = 0
        · have HZ : Hid (y = 0) := hz
          have hz' : (y != 0) = false := by simpa using hz
          clear hz
          go_wp2_with fail
          go_roundw
          case rel => first | exact ⟨2, by omega, rfl, fun _ => HX0.out, fun _ => HZ.out, rfl⟩ | exact ⟨2, by omega, rfl, fun _ => HX0.out, fun _ => HZ.out, trivial⟩ | ((repeat apply Exists.intro); exact ⟨⟨2, by omega, rfl, fun _ => HX0.out, fun _ => HZ.out, rfl⟩, rfl⟩)
          case measure => simp [intOf]
        · have hz' : (y != 0) = true := by simpa using hz
          clear hz
          go_wp2_with fail
          go_ret
          exact ⟨by rw [HE.out]; rfl, rfl⟩
      · obtain rfl : k = 2 := by omega
        have hx0 : x = 0 := HX.out (by omega)
        have hy0 : y = 0 := HY.out (by omega)
        have hr : r = 0 := by have := HR.out; rw [if_neg (fun h => h hx0), hy0] at this; exact this.symm
        have HE : Hid (r = 0) := hr
        clear hx0 hy0 hr
        go_wp2_with fail
        go_ret
        exact ⟨by rw [HE.out]; rfl, rfl⟩
theorem grow3 (W : World) (o1 o2 o3 : Obj) : (((W.alloc o1).alloc o2).drew).alloc o3 = Go.Sort.grow (W.drewN 1) #[o1, o2, o3] := by
  show ((W.drew.alloc o1).alloc o2).alloc o3 = _
  rw [Go.Sort.alloc_eq_grow, Go.Sort.alloc_eq_grow, Go.Sort.alloc_eq_grow, Go.Sort.grow_grow, Go.Sort.grow_grow]
  rfl
set_option maxHeartbeats 2000000 in
set_option maxRecDepth 100000 in
theorem cmpE_any (x y : Int × Int) (W : World) :
    Calls Try.prog 68 #[.agg #[.int .i64 x.1, .int .i64 x.2], .agg #[.int .i64 y.1, .int .i64 y.2]] W fun e w' => e = .returned (.int .i64 (Plan.cmp2 x y)) ∧ ∃ q os', w' = Go.Sort.grow (W.drewN q) os' := by
  obtain ⟨x1, x2⟩ := x
  obtain ⟨y1, y2⟩ := y
  have hcm : Plan.cmp2 (x1, x2) (y1, y2) = (if Plan.cmp1 x1 y1 ≠ 0 then Plan.cmp1 x1 y1 else Plan.cmp1 x2 y2) := rfl
  obtain ⟨r, hr⟩ : ∃ r, Plan.cmp2 (x1, x2) (y1, y2) = r := ⟨_, rfl⟩
  rw [hr]
  rw [hr] at hcm
  have HR : Hid (r = (if Plan.cmp1 x1 y1 ≠ 0 then Plan.cmp1 x1 y1 else Plan.cmp1 x2 y2)) := hcm
  clear hcm hr
  simp only
  obtain ⟨W2, hW2⟩ : ∃ W2, (W.alloc (.cells #[.int .i64 x1, .int .i64 x2] 31)).alloc (.cells #[.int .i64 y1, .int .i64 y2] 31) = W2 := ⟨_, rfl⟩
  have HW : Hid ((W.alloc (.cells #[.int .i64 x1, .int .i64 x2] 31)).alloc (.cells #[.int .i64 y1, .int .i64 y2] 31) = W2) := hW2
  have b0 : W2.cell? ⟨W.heap.size, 0, none⟩ = some (.int .i64 x1) := by rw [← hW2]; simp
  have b1 : W2.cell? ⟨W.heap.size, 1, none⟩ = some (.int .i64 x2) := by rw [← hW2]; simp
  have e1 : (W.alloc (.cells #[.int .i64 x1, .int .i64 x2] 31)).heap.size = W.heap.size + 1 := by simp
  have b2 : W2.cell? ⟨W.heap.size + 1, 0, none⟩ = some (.int .i64 y1) := by
    rw [← hW2]
    generalize W.alloc _ = W3 at e1 ⊢
    rw [← e1]; simp
  have b3 : W2.cell? ⟨W.heap.size + 1, 1, none⟩ = some (.int .i64 y2) := by
    rw [← hW2]
    generalize W.alloc _ = W3 at e1 ⊢
    rw [← e1]; simp
  have hs : W2.heap.size = W.heap.size + 1 + 1 := by rw [← hW2]; simp
  have HSz : Hid (W2.heap.size = W.heap.size + 1 + 1) := hs
  clear hs e1
  go_enter Try.func68, Try.ntmps68
  go_wp2_with fail
  try rw [hW2]
  clear hW2
  generalize W.heap.size + 1 = c2 at b2 b3 HSz ⊢
  generalize W.heap.size = c1 at b0 b1 ⊢
  have N0 : Hid ((W2.alloc (.cells #[.int .i64 (Plan.cmp1 x1 y1), .int .i64 (Plan.cmp1 x2 y2)] 3)).drew.cell? ⟨W2.heap.size, 0, none⟩ = some (.int .i64 (Plan.cmp1 x1 y1))) := by
    show (W2.alloc _).cell? _ = _
    simp
  have N1 : Hid ((W2.alloc (.cells #[.int .i64 (Plan.cmp1 x1 y1), .int .i64 (Plan.cmp1 x2 y2)] 3)).drew.cell? ⟨W2.heap.size, 1, none⟩ = some (.int .i64 (Plan.cmp1 x2 y2))) := by
    show (W2.alloc _).cell? _ = _
    simp
  go_region_held3 (fun w' => w'.cell? ⟨c1, 0, none⟩ = some (.int .i64 x1) ∧ w'.cell? ⟨c1, 1, none⟩ = some (.int .i64 x2) ∧ w'.cell? ⟨c2, 0, none⟩ = some (.int .i64 y1) ∧ w'.cell? ⟨c2, 1, none⟩ = some (.int .i64 y2)) (go_keep) (first | (go_at_call 70; refine (compare_any _ _ _).mono ?_; rintro e w' ⟨rfl, hq⟩; obtain rfl := hq.symm) | (go_at_call 69; refine (or_any (Plan.cmp1 x1 y1) (Plan.cmp1 x2 y2) W2.heap.size (W2.alloc (.cells #[.int .i64 (Plan.cmp1 x1 y1), .int .i64 (Plan.cmp1 x2 y2)] 3)).drew N0.out N1.out).mono ?_; rintro e w' ⟨rfl, hq⟩; obtain rfl := hq.symm; rw [← HR.out]))
  go_wp2_with fail
  go_ret
  refine ⟨rfl, 1, #[.cells #[.int .i64 x1, .int .i64 x2] 31, .cells #[.int .i64 y1, .int .i64 y2] 31, .cells #[.int .i64 (Plan.cmp1 x1 y1), .int .i64 (Plan.cmp1 x2 y2)] 3], ?_⟩
  rw [← HW.out]
  exact grow3 W _ _ _
set_option maxHeartbeats 1000000 in
theorem enone_any (A B N : Int) (b : Nat) (w : World) (hN : 2 ≤ N ∧ N ≤ 6) (hB : I64 B) (hc : w.cell? ⟨b, 0, none⟩ = some (.int .i64 N)) :
    Calls Try.prog 50 #[.agg #[.int .i64 A, .int .i64 B], .pointer (some ⟨b, 0, none⟩)] w fun e w' => e = .returned (.bool (!Plan.goodB N (A, B))) ∧ Below w.heap.size w w' := by
  have hc' : ∀ o, (w.alloc o).cell? ⟨b, 0, none⟩ = some (.int .i64 N) := fun o => ((fresh w o).cell (p := ⟨b, 0, none⟩) (cell_lt hc)).trans hc
  have HW : ∀ o, Hid (Below w.heap.size w (w.alloc o)) := fun o => fresh _ _
  rw [Plan.goodB_eq]
  have wn : IntKind.i64.wrap (N - 1) = N - 1 := by simp only [IntKind.wrap_i64]; omega
  obtain ⟨hB1, hB2⟩ := hB
  cases h1 : Plan.bnd B 1 (N - 1) with
  | false =>
    clear hc
    go_enter Try.func50, Try.ntmps50
    go_wp2_with (go_at_call 43; refine (within_any _ _ _ _).mono ?_; rintro e w' ⟨rfl, hq⟩; obtain rfl := hq.symm; rw [h1])
    go_ret
    exact ⟨rfl, (HW _).out⟩
  | true =>
    have hb : 1 ≤ B ∧ B ≤ N - 1 := by unfold Plan.bnd at h1; simpa using h1
    have wb : IntKind.i64.wrap (B - 1) = B - 1 := by simp only [IntKind.wrap_i64]; omega
    obtain ⟨t, ht⟩ : ∃ t, Plan.bnd A 0 (B - 1) = t := ⟨_, rfl⟩
    have HT : Hid (Plan.bnd A 0 (B - 1) = t) := ht
    rw [ht]
    clear ht hc
    go_enter Try.func50, Try.ntmps50
    go_wp2_with (first | (go_at_call_of 43 (Value.int IntKind.i64 B); refine (within_any B 1 (N - 1) _).mono ?_; rintro e w' ⟨rfl, hq⟩; obtain rfl := hq.symm; rw [h1]) | (go_at_call_of 43 (Value.int IntKind.i64 A); refine (within_any A 0 (B - 1) _).mono ?_; rintro e w' ⟨rfl, hq⟩; obtain rfl := hq.symm; rw [HT.out]))
    go_ret
    exact ⟨by cases t <;> rfl, (HW _).out⟩
set_option maxHeartbeats 2000000 in
set_option maxRecDepth 100000 in
theorem eidx_any {w : World} {a : Option Addr} {n c b : Nat} {es : List (Int × Int)} {N : Int} (h : Pr w a n es) (hn : n ≤ 8796093022208) (hi : ∀ x ∈ es, I64 x.1 ∧ I64 x.2) (hN : 2 ≤ N ∧ N ≤ 6) (hb : w.cell? ⟨b, 0, none⟩ = some (.int .i64 N)) :
    Calls Try.prog 65 #[.slice a n c, .func (Fn.func 50) #[] #[.pointer (some ⟨b, 0, none⟩)]] w fun e w' => ∃ z : Int, e = .returned (.int .i64 z) ∧ decide (0 ≤ z) = !(es.all (Plan.goodB N)) ∧ Below w.heap.size w w' := by
  have HZ : Hid (Pr w a n es) := h
  have HC : Hid (w.cell? ⟨b, 0, none⟩ = some (.int .i64 N)) := hb
  have HI : Hid (∀ x ∈ es, I64 x.1 ∧ I64 x.2) := hi
  have HN6 : Hid (2 ≤ N ∧ N ≤ 6) := hN
  have hln := h.1
  clear h hb hi hN
  go_enter Try.func65, Try.ntmps65
  go_wp2_with fail
  go_loopw [5, 8] (fun _ i wr => ∃ k : Nat, k ≤ n ∧ i = .int .i64 k ∧ (∀ j, j < k → Plan.goodB N (Plan.edge es j) = true) ∧ Below w.heap.size w wr) (fun _ i _ => n - (intOf i).toNat)
  case atStart => exact ⟨0, Nat.zero_le _, rfl, fun j hj => by omega, Below.refl _ _⟩
  case round =>
    obtain ⟨k, hk, rfl, hno, hB⟩ := hrel
    have HN : Hid (∀ j, j < k → Plan.goodB N (Plan.edge es j) = true) := hno
    have HB : Hid (Below w.heap.size w wr) := hB
    clear hno hB
    by_cases hkn : k < n
    · obtain ⟨b2, off, ha, hcA, hcB⟩ := (HZ.out.below HB.out).at hkn
      subst ha
      obtain ⟨⟨A, B⟩, hy⟩ : ∃ y, es.getD k (0, 0) = y := ⟨_, rfl⟩
      have HY : Hid (Plan.edge es k = (A, B)) := hy
      rw [hy] at hcA hcB
      simp only at hcA hcB
      clear hy
      have HBi : Hid (I64 B) := by
        have := (HI.out _ (Plan.edge_mem (show k < es.length by omega))).2
        rw [HY.out] at this
        exact this
      have HCw : Hid (wr.cell? ⟨b, 0, none⟩ = some (.int .i64 N)) := (HB.out.cell (p := ⟨b, 0, none⟩) (cell_lt HC.out)).trans HC.out
      cases hb : Plan.goodB N (A, B) with
      | true =>
        have HG : Hid (Plan.goodB N (A, B) = true) := hb
        go_wp2_with (go_at_call 50; refine (enone_any A B N b _ HN6.out HBi.out HCw.out).mono ?_; rintro e w' ⟨rfl, hB2⟩; rw [hb]; have HB2 : Hid (Below w.heap.size w w') := later HB.out hB2; clear hB2)
        go_roundw
        case rel =>
          have R : ∀ j, j < k + 1 → Plan.goodB N (Plan.edge es j) = true := fun j hj => by
            by_cases e : j = k
            · rw [e, HY.out]; exact HG.out
            · exact HN.out j (by omega)
          first | exact ⟨k + 1, by omega, by go_num, R, HB2.out⟩ | ((repeat apply Exists.intro); exact ⟨⟨k + 1, by omega, by go_num, R, HB2.out⟩, rfl⟩)
        case measure => simp [intOf]; omega
      | false =>
        have HF : Hid (es.all (Plan.goodB N) = false) := Plan.not_all_goodB (k := k) (by omega) (by rw [HY.out]; exact hb)
        go_wp2_with (go_at_call 50; refine (enone_any A B N b _ HN6.out HBi.out HCw.out).mono ?_; rintro e w' ⟨rfl, hB2⟩; rw [hb]; have HB2 : Hid (Below w.heap.size w w') := later HB.out hB2; clear hB2)
        go_ret
        exact ⟨(k : Int), rfl, by rw [HF.out]; exact decide_eq_true (by omega), HB2.out⟩
    · obtain rfl : k = n := by omega
      have HF : Hid (es.all (Plan.goodB N) = true) := Plan.all_goodB (fun j hj => HN.out j (by omega))
      go_wp2_with fail
      go_ret
      exact ⟨-1, rfl, by rw [HF.out]; rfl, HB.out⟩
theorem econt_any {w : World} {a : Option Addr} {n c b : Nat} {es : List (Int × Int)} {N : Int} (h : Pr w a n es) (hn : n ≤ 8796093022208) (hi : ∀ x ∈ es, I64 x.1 ∧ I64 x.2) (hN : 2 ≤ N ∧ N ≤ 6) (hb : w.cell? ⟨b, 0, none⟩ = some (.int .i64 N)) :
    Calls Try.prog 51 #[.slice a n c, .func (Fn.func 50) #[] #[.pointer (some ⟨b, 0, none⟩)]] w fun e w' => e = .returned (.bool (!(es.all (Plan.goodB N)))) ∧ Below w.heap.size w w' := by
  have HI := eidx_any (c := c) h hn hi hN hb
  have HI' : Hid _ := HI
  clear HI h hi hN hb
  go_enter Try.func51, Try.ntmps51
  go_wp2_with (go_at_call 65; refine Calls.mono HI'.out ?_; rintro e w' ⟨z, rfl, hz, hB⟩; have HD : Hid (decide (0 ≤ z) = !(es.all (Plan.goodB N))) := hz; have HB : Hid _ := hB; clear hz hB)
  go_ret
  exact ⟨by rw [← HD.out]; rfl, HB.out⟩
set_option maxHeartbeats 1000000 in
set_option maxRecDepth 100000 in
theorem clone_pr {w : World} {ad : Addr} {n c : Nat} {l : List (Int × Int)} (h : Pr w (some ad) n l) (hn : n ≤ 8796093022208) :
    Calls Try.prog 66 #[.slice (some ad) n c] w fun e w' => ∃ v, e = .returned v ∧ w'.ownsRow w.heap.size 31 2 v l.length (pcells l) ∧ Below w.heap.size w w' := by
  have q29 : ∀ (w : World) (a : Option Addr) (n c n' c' : Nat), (binOp .eql 22 (.slice a n c) (.slice none n' c')).run Try.prog w = .ok (.bool a.isNone) w := fun w a n c n' c' => Lib.run_eql_slice_nil w _ _ a n c n' c' Try.underlying22
  have HZ : Hid (Pr w (some ad) n l) := h
  clear h
  have HO : Hid ((w.alloc (.cells #[] 31)).ownsRow w.heap.size 31 2 (.slice (some ⟨w.heap.size, 0, none⟩) 0 0) 0 []) := World.ownsRow_made (base := w.heap.size) (e := 31) (size := 2) w #[] 0 (Nat.le_refl _) (by unfold maxLen; omega) (by simp)
  go_enter Try.func66, Try.ntmps66
  go_wp2_with (at_builtin; refine wpList_append_p rfl (.tmp 5) (.tmp 6) 22 31 rfl Try.underlying22 infoE w.heap.size (.slice (some ⟨w.heap.size, 0, none⟩) 0 0) [] rfl HO.out (by simp) (some ad) n c l rfl (HZ.out.below (fresh _ _)) (fun e => by cases e) (by simp; omega) l rfl ?_; intro v' w2 hown hB2)
  go_ret
  exact ⟨_, rfl, hown, (fresh _ _).trans hB2⟩
theorem clone_nil (w : World) (n c : Nat) :
    Calls Try.prog 66 #[.slice none n c] w fun e w' => e = .returned (.slice none 0 0) ∧ w' = w := by
  have q29 : ∀ (w : World) (a : Option Addr) (n c n' c' : Nat), (binOp .eql 22 (.slice a n c) (.slice none n' c')).run Try.prog w = .ok (.bool a.isNone) w := fun w a n c n' c' => Lib.run_eql_slice_nil w _ _ a n c n' c' Try.underlying22
  go_enter Try.func66, Try.ntmps66
  go_wp2_with fail
  go_ret
  exact ⟨rfl, rfl⟩
end Go.Proofs.Ytphaaolnmbadcaa
namespace Go.Proofs.Ytphaaolnmbadcaa
open Go.ChangeShapes Go.WideShapes Go.ChangeAt Go.RowKit
set_option linter.unusedVariables false

theorem neE (w : World) (a b c d : Int) : (binOp .neq 31 (.agg #[.int .i64 a, .int .i64 b]) (.agg #[.int .i64 c, .int .i64 d])).run Try.prog w = .ok (.bool (!(a == c && b == d))) w := by
  have u3 := Try.underlying3
  have a3 := Try.isAgg3
  have z3 := Try.sizeOf3
  have hS : Try.prog.underlying 31 = some (.struct (Try.prog.fieldsOf 31)) := by kernel_rfl
  have hp : Try.prog.stoodInHeld 31 = false := by kernel_rfl
  rw [run_neq_struct, show (10000 : Nat) = 9999 + 1 from rfl, run_equalIn_agg w 9999 31 _ _ hS hp]
  simp only [Program.fieldsOf, Try.underlying31]
  go_simp
  by_cases h1 : a = c <;> by_cases h2 : b = d <;> simp [h1, h2]
namespace Plan
/-- no two side by side are the same -/
def Adj (l : List (Int × Int)) : Prop := ∀ k, k + 1 < l.length → edge l (k + 1) ≠ edge l k
end Plan
/-- a row of edges of the call's own, whatever its numbers are -/
def Nums (w : World) (base g n cap : Nat) : Prop := ∃ xs, w.ownsRow base 31 2 (.slice (some ⟨g, 0, none⟩) n cap) n xs ∧ ∀ x ∈ xs, ∃ z : Int, x = .int .i64 z
theorem Nums.at {w : World} {base g n cap : Nat} (h : Nums w base g n cap) {i : Nat} (hi : i < n * 2) : ∃ z : Int, w.cell? ⟨g, i, none⟩ = some (.int .i64 z) ∧ w.frozen? ⟨g, i, none⟩ = false := by
  obtain ⟨xs, h1, h2⟩ := h
  have hl := h1.1
  have hc := h1.cellAt i (by omega)
  rw [List.getElem?_eq_getElem (show i < xs.length by omega)] at hc
  obtain ⟨z, hz⟩ := h2 _ (List.getElem_mem (show i < xs.length by omega))
  exact ⟨z, by rw [hc, hz], h1.frozenAt i⟩
theorem Nums.set {w : World} {base g n cap : Nat} (h : Nums w base g n cap) (i : Nat) (z : Int) : Nums (w.setCell ⟨g, i, none⟩ (.int .i64 z)) base g n cap := by
  obtain ⟨xs, h1, h2⟩ := h
  refine ⟨_, (h1.stored i _).1, fun x hx => ?_⟩
  rcases List.mem_or_eq_of_mem_set hx with e | e
  · exact h2 x e
  · exact ⟨z, e⟩
theorem Nums.low {w : World} {base g n cap : Nat} (h : Nums w base g n cap) (hn : 0 < n) : base ≤ g ∧ n ≤ cap ∧ cap ≤ maxLen := by
  obtain ⟨xs, h1, h2⟩ := h
  rcases h1.2 with ⟨hv, h0⟩ | ⟨g', cap', cur, hv, hb, hg, hnc, hcm, hcs, htake⟩
  · omega
  · simp only [Value.slice.injEq, Option.some.injEq, Addr.mk.injEq, true_and, and_true] at hv
    obtain ⟨rfl, rfl⟩ := hv
    exact ⟨hb, hnc, hcm⟩
theorem run_clear_any {P : Program} (w : World) (t e ty : TypeId) (z : Value) (ht : P.underlying t = some (.slice e)) (hv : ∀ w, (zeroValue e).run P w = .ok z w) (b o n c m : Nat) (hn : 0 < n) (hm : (Builtin.zeroCells z.cells n).toList.length = m)
    (h1 : ∀ x ∈ (Builtin.zeroCells z.cells n).toList, x.oneCell' = true) (hc : ∀ j, j < m → (w.cell? ⟨b, o + j, none⟩).isSome = true) (hf : ∀ j, j < m → w.frozen? ⟨b, o + j, none⟩ = false) :
    (Builtin.clear_ #[t] ty #[.slice (some ⟨b, o, none⟩) n c]).run P w = .ok (.tuple #[]) (w.setCells b o (Builtin.zeroCells z.cells n).toList) := by
  have hst := run_storeCells_cells (P := P) b o (Builtin.zeroCells z.cells n).toList 0 w (by rw [hm]; simpa using hc) (by rw [hm]; simpa using hf) h1
  simp only [Nat.add_zero] at hst
  obtain ⟨k, rfl⟩ : ∃ k, n = k + 1 := ⟨n - 1, by omega⟩
  simp [Builtin.clear_, run_underlying ht, hv, hst]
theorem zeros_len (n : Nat) : (Builtin.zeroCells (Value.agg #[.int .i64 0, .int .i64 0]).cells n).toList.length = n * 2 := by
  simp [Builtin.zeroCells, Value.cells]
theorem zeros_one (n : Nat) : ∀ x ∈ (Builtin.zeroCells (Value.agg #[.int .i64 0, .int .i64 0]).cells n).toList, x.oneCell' = true := by
  intro x hx
  simp [Builtin.zeroCells, Value.cells] at hx
  obtain ⟨a, _, rfl⟩ := hx
  rcases Nat.mod_two_eq_zero_or_one a with e | e <;> rw [e] <;> rfl
theorem set_below {w wr : World} {base g i : Nat} {v : Value} (h : Below base w wr) (hb : base ≤ w.heap.size) (hg : base ≤ g) : Below base w (wr.setCell ⟨g, i, none⟩ v) :=
  have s := Sans.of_set (F := fun j => j = g) wr ⟨g, i, none⟩ v rfl
  ⟨s.os.trans h.os, s.tape.trans h.tape, s.output.trans h.output, Nat.le_trans h.size s.size, fun j hj => (s.block j (by have := h.size; omega) (by omega)).trans (h.block j hj)⟩
set_option maxHeartbeats 4000000 in
set_option maxRecDepth 100000 in
theorem compactE_own {w : World} {base : Nat} {v : Value} {l : List (Int × Int)} (h : w.ownsRow base 31 2 v l.length (pcells l)) (hl : l.length ≤ 8796093022208) :
    Calls Try.prog 71 #[v] w fun e w' => ∃ a m cap, e = .returned (.slice a m cap) ∧ (m = l.length ↔ Plan.Adj l) ∧ Below base w w' := by
  obtain ⟨a, cap, rfl, hz, hnc, hcm, _, hown⟩ := pr_of_owns h
  rcases hown with ⟨rfl, rfl⟩ | ⟨g, rfl, hbg, hgl⟩
  · clear h hz
    have HA : Hid (Plan.Adj []) := fun k hk => by simp at hk
    go_enter Try.func71, Try.ntmps71
    go_wp2_with fail
    go_ret
    refine ⟨none, 0, ⟨_, rfl⟩, ⟨fun _ => HA.out, fun _ => rfl⟩, Below.refl _ _⟩
  · have HP : Hid (Pr w (some ⟨g, 0, none⟩) l.length l) := hz
    have HNu : Hid (Nums w base g l.length cap) := ⟨_, h, fun x hx => by
      unfold pcells at hx
      obtain ⟨y, _, hy⟩ := List.mem_flatMap.1 hx
      simp only [List.mem_cons, List.not_mem_nil, or_false] at hy
      rcases hy with rfl | rfl <;> exact ⟨_, rfl⟩⟩
    obtain ⟨n, hn⟩ : ∃ n, l.length = n := ⟨_, rfl⟩
    rw [hn] at HP HNu hl hnc ⊢
    have HL : Hid (l.length = n) := hn
    clear h hz hn
    by_cases h2 : n < 2
    · have HA : Hid (Plan.Adj l) := fun k hk => by have := HL.out; omega
      have h2' : (n : Int) < 2 := by omega
      go_enter Try.func71, Try.ntmps71
      go_wp2_with fail
      go_ret
      exact ⟨_, _, _, rfl, ⟨fun _ => HA.out, fun _ => rfl⟩, Below.refl _ _⟩
    · go_enter Try.func71, Try.ntmps71
      go_wp2_with fail
      go_loopw [3, 4, 5] (fun i _ _ wr => ∃ j : Nat, j + 1 ≤ n ∧ i = .int .i64 (j + 1 : Nat) ∧ (∀ k, k + 1 < j + 1 → Plan.edge l (k + 1) ≠ Plan.edge l k) ∧ Below w.heap.size w wr) (fun i _ _ _ => n - (intOf i).toNat)
      case atStart => exact ⟨0, by omega, rfl, fun k hk => by omega, Below.refl _ _⟩
      case round =>
        obtain ⟨j, hj, rfl, hA, hB⟩ := hrel
        have HB : Hid (Below w.heap.size w wr) := hB
        clear hB
        have HA : Hid (∀ k, k + 1 < j + 1 → Plan.edge l (k + 1) ≠ Plan.edge l k) := hA
        clear hA
        by_cases hjn : j + 1 < n
        · have hP := HP.out.below HB.out
          obtain ⟨b1, o1, e1, cA1, cB1⟩ := hP.at hjn
          obtain ⟨b0, o0, e0, cA0, cB0⟩ := hP.at (show j < n by omega)
          simp only [Option.some.injEq, Addr.mk.injEq, and_true] at e1 e0
          rw [← e1.1, ← e1.2, Nat.zero_add] at cA1 cB1
          rw [← e0.1, ← e0.2, Nat.zero_add] at cA0 cB0
          clear e1 e0
          obtain ⟨⟨A1, B1⟩, hy1⟩ : ∃ y, l.getD (j + 1) (0, 0) = y := ⟨_, rfl⟩
          obtain ⟨⟨A0, B0⟩, hy0⟩ : ∃ y, l.getD j (0, 0) = y := ⟨_, rfl⟩
          have HY : Hid (Plan.edge l (j + 1) = (A1, B1) ∧ Plan.edge l j = (A0, B0)) := ⟨hy1, hy0⟩
          rw [hy1] at cA1 cB1
          rw [hy0] at cA0 cB0
          simp only at cA1 cB1 cA0 cB0
          clear hy1 hy0 hP
          have heq := fun w => eqE w A1 B1 A0 B0
          have hgd := gdE
          by_cases hEq : A1 = A0 ∧ B1 = B0
          · have hb : (A1 == A0 && B1 == B0) = true := by simp [hEq.1, hEq.2]
            rw [hb] at heq
            have HDup : Hid (¬ Plan.Adj l) := fun h => h j (by have := HL.out; omega) (by rw [HY.out.1, HY.out.2, hEq.1, hEq.2])
            obtain ⟨m, hm⟩ : ∃ m, n - (j + 1) = m := ⟨_, rfl⟩
            have HM : Hid (n = j + 1 + m ∧ 1 ≤ m) := by constructor <;> omega
            have hkc : (j : Int) + 1 ≤ cap := by omega
            clear hEq hb
            go_wp2_with fail
            go_region
            go_wp2_with fail
            clear heq cA1 cB1 cA0 cB0 hm
            have HN0 : Hid (Nums wr.drew base g n cap) := by
              obtain ⟨xs, h1, h2⟩ := HNu.out
              exact ⟨xs, owns_below h1 HB.out.drew, h2⟩
            have HB0 : Hid (Below base w wr.drew) := HB.out.drew.mono (by omega)
            generalize wr.drew = W3 at HN0 HB0 ⊢
            go_loopw [3, 5] (fun i2 k2 ww => ∃ kk t : Nat, i2 = .int .i64 kk ∧ k2 = .int .i64 (t + 1 : Nat) ∧ t + 1 ≤ m ∧ j + 1 ≤ kk ∧ kk ≤ j + 1 + t ∧ Nums ww base g n cap ∧ Below base w ww) (fun _ k2 _ => m - (intOf k2).toNat)
            case atStart => exact ⟨j + 1, 0, rfl, rfl, by have := HM.out; omega, Nat.le_refl _, by omega, HN0.out, HB0.out⟩
            case round =>
              obtain ⟨kk, t, rfl, rfl, ht, hk1, hk2, hNu, hBw⟩ := hrel
              have HN1 : Hid (Nums wr base g n cap) := hNu
              have HB1 : Hid (Below base w wr) := hBw
              clear hNu hBw
              have hkkn : kk < n := by have := HM.out; omega
              have htb : t ≤ 8796093022208 := by have := HM.out; omega
              have hmb : m ≤ 8796093022208 := by have := HM.out; omega
              by_cases htm : t + 1 < m
              · obtain ⟨A1, cA1, _⟩ := HN1.out.at (i := (j + 1) * 2 + (t + 1) * 2) (by have := HM.out; omega)
                obtain ⟨B1, cB1, _⟩ := HN1.out.at (i := (j + 1) * 2 + (t + 1) * 2 + 1) (by have := HM.out; omega)
                obtain ⟨A0, cA0, _⟩ := HN1.out.at (i := (j + 1) * 2 + t * 2) (by have := HM.out; omega)
                obtain ⟨B0, cB0, _⟩ := HN1.out.at (i := (j + 1) * 2 + t * 2 + 1) (by have := HM.out; omega)
                obtain ⟨x0, d0, f0⟩ := HN1.out.at (i := kk * 2) (by omega)
                obtain ⟨x1, d1, f1⟩ := HN1.out.at (i := kk * 2 + 1) (by omega)
                have hne := fun w => neE w A1 B1 A0 B0
                have hgd := gdE
                cases hb : (A1 == A0 && B1 == B0) with
                | true =>
                  rw [hb] at hne
                  clear hb d0 d1 f0 f1
                  go_wp2_with fail
                  go_region
                  go_wp2_with fail
                  go_roundw
                  case rel =>
                    have R1 : Nums wr.drew base g n cap := HN1.out
                    first | exact ⟨kk, t + 1, rfl, by go_num, by omega, hk1, by omega, R1, HB1.out.drew⟩ | ((repeat apply Exists.intro); exact ⟨⟨kk, t + 1, rfl, by go_num, by omega, hk1, by omega, R1, HB1.out.drew⟩, rfl⟩)
                  case measure => simp [intOf]; omega
                | false =>
                  rw [hb] at hne
                  clear hb
                  have hkn' : (kk : Int) < n := by omega
                  go_wp2_with fail
                  go_region
                  go_wp2_with fail
                  go_roundw
                  case rel =>
                    have R1 : Nums ((wr.setCell ⟨g, kk * 2, none⟩ (.int .i64 A1)).setCell ⟨g, kk * 2 + 1, none⟩ (.int .i64 B1)).drew base g n cap := (HN1.out.set _ _).set _ _
                    have R2 : Below base w ((wr.setCell ⟨g, kk * 2, none⟩ (.int .i64 A1)).setCell ⟨g, kk * 2 + 1, none⟩ (.int .i64 B1)).drew := (set_below (set_below HB1.out (by omega) hbg) (by omega) hbg).drew
                    first | exact ⟨kk + 1, t + 1, by go_num, by go_num, by omega, by omega, by omega, R1, R2⟩ | ((repeat apply Exists.intro); exact ⟨⟨kk + 1, t + 1, by go_num, by go_num, by omega, by omega, by omega, R1, R2⟩, rfl⟩)
                  case measure => simp [intOf]; omega
              · have hcl : ∀ ty, (Builtin.clear_ #[22] ty #[.slice (some ⟨g, kk * 2, none⟩) (n - kk) (cap - kk)]).run Try.prog wr = .ok (.tuple #[]) (wr.setCells g (kk * 2) (Builtin.zeroCells (Value.agg #[.int .i64 0, .int .i64 0]).cells (n - kk)).toList) :=
                  fun ty => run_clear_any wr 22 31 ty (.agg #[.int .i64 0, .int .i64 0]) Try.underlying22 Try.zeroValue31 g (kk * 2) (n - kk) (cap - kk) ((n - kk) * 2) (by omega) (zeros_len _) (zeros_one _) (fun i hi => by
                    obtain ⟨z, hz, _⟩ := HN1.out.at (i := kk * 2 + i) (by omega)
                    rw [hz]; rfl) (fun i hi => by
                    obtain ⟨z, _, hf⟩ := HN1.out.at (i := kk * 2 + i) (by omega)
                    exact hf)
                have HBc : Hid (Below base w (wr.setCells g (kk * 2) (Builtin.zeroCells (Value.agg #[.int .i64 0, .int .i64 0]).cells (n - kk)).toList)) := HB1.out.trans (Lib.below_setCells_w hbg _ _ _)
                generalize wr.setCells g (kk * 2) _ = Wc at hcl HBc
                have hkn' : (kk : Int) ≤ n := by omega
                have hkc' : (kk : Int) ≤ cap := by omega
                go_wp2_with fail
                go_ret
                exact ⟨_, _, _, rfl, ⟨fun h => by omega, fun h => absurd h HDup.out⟩, HBc.out⟩
          · have hb : (A1 == A0 && B1 == B0) = false := by
              rw [Bool.and_eq_false_iff, beq_eq_false_iff_ne, beq_eq_false_iff_ne]
              by_cases e : A1 = A0
              · exact .inr (fun e2 => hEq ⟨e, e2⟩)
              · exact .inl e
            rw [hb] at heq
            have HNe : Hid (Plan.edge l (j + 1) ≠ Plan.edge l j) := by
              rw [HY.out.1, HY.out.2]
              intro e
              simp only [Prod.mk.injEq] at e
              exact hEq e
            clear hEq hb
            go_wp2_with fail
            go_region
            go_wp2_with fail
            go_roundw
            case rel =>
              have R1 : ∀ k, k + 1 < j + 1 + 1 → Plan.edge l (k + 1) ≠ Plan.edge l k := fun k hk => by
                by_cases e : k = j
                · rw [e]; exact HNe.out
                · exact HA.out k (by omega)
              first | exact ⟨j + 1, by omega, by go_num, R1, HB.out.drew⟩ | ((repeat apply Exists.intro); exact ⟨⟨j + 1, by omega, by go_num, R1, HB.out.drew⟩, rfl⟩)
            case measure => simp [intOf]; omega
        · have HAd : Hid (Plan.Adj l) := fun k hk => HA.out k (by have := HL.out; omega)
          have HQ : Hid (j + 1 = n) := by show _ = _; omega
          go_wp2_with fail
          go_ret
          exact ⟨_, _, _, rfl, ⟨fun _ => HAd.out, fun _ => rfl⟩, HB.out.mono (by omega)⟩
end Go.Proofs.Ytphaaolnmbadcaa
namespace Go.Proofs.Ytphaaolnmbadcaa
open Go.ChangeShapes Go.WideShapes Go.ChangeAt Go.RowKit Go.Sort
set_option linter.unusedVariables false

namespace Plan
theorem lt2 (x y : Int × Int) : ltOf cmp2 x y = decide (x.1 < y.1 ∨ x.1 = y.1 ∧ x.2 < y.2) := by
  unfold ltOf
  exact decide_eq_decide.2 (cmp2_neg x y)
theorem swo2 : SWO (ltOf cmp2) where
  irrefl x := by rw [lt2, decide_eq_false_iff_not]; omega
  trans x y z h1 h2 := by rw [lt2, decide_eq_true_eq] at *; omega
  ntrans x y z h1 h2 := by rw [lt2, decide_eq_false_iff_not] at *; omega
/-- sorted: side by side unlike is unlike everywhere -/
theorem adj_nodup {l : List (Int × Int)} (h : ∀ i j, i < j → j < l.length → ltOf cmp2 (edge l j) (edge l i) = false) : Adj l ↔ l.Nodup := by
  constructor
  · intro ha
    refine List.pairwise_iff_getElem.2 fun i j hi hj hij e => ?_
    have e1 : edge l i = edge l j := by
      unfold edge
      rw [List.getD_eq_getElem?_getD, List.getElem?_eq_getElem hi, List.getD_eq_getElem?_getD, List.getElem?_eq_getElem hj]
      exact e
    have h1 := ha i (by omega)
    by_cases e2 : j = i + 1
    · subst e2
      exact h1 e1.symm
    · have h2 := h (i + 1) j (by omega) hj
      have h3 := h i (i + 1) (by omega) (by omega)
      rw [← e1] at h2
      rw [lt2, decide_eq_false_iff_not] at h2 h3
      refine h1 (Prod.ext ?_ ?_) <;> omega
  · intro hn k hk e
    have := List.pairwise_iff_getElem.1 hn k (k + 1) (by omega) hk (by omega)
    unfold edge at e
    rw [List.getD_eq_getElem?_getD, List.getElem?_eq_getElem hk, List.getD_eq_getElem?_getD, List.getElem?_eq_getElem (show k < l.length by omega)] at e
    exact this e.symm
end Plan
def encE (x : Int × Int) : List Value := [.int .i64 x.1, .int .i64 x.2]
theorem flat_pcells (l : List (Int × Int)) : (flatK encE 2 l.toArray).toList = pcells l := by
  apply List.ext_getElem?
  intro t
  by_cases ht : t < l.length * 2
  · have h1 := get_flatK encE 2 l.toArray t (by simpa using ht)
    rw [getElem!_pos _ t (by simpa using ht)] at h1
    rw [Array.getElem?_toList, Array.getElem?_eq_getElem (by simpa using ht), h1]
    have hp := pcells_at l (t / 2) (by omega)
    have hg : l.toArray[t / 2]! = l.getD (t / 2) (0, 0) := by
      rw [getElem!_pos l.toArray (t / 2) (by simp; omega), List.getD_eq_getElem?_getD, List.getElem?_eq_getElem (by omega)]
      simp
    rw [hg]
    rcases Nat.mod_two_eq_zero_or_one t with e0 | e0
    · have ej : t = t / 2 * 2 := by omega
      rw [e0]
      have h3 := hp.1
      rw [← ej] at h3
      rw [h3]
      rfl
    · have ej : t = t / 2 * 2 + 1 := by omega
      rw [e0]
      have h3 := hp.2
      rw [← ej] at h3
      rw [h3]
      rfl
  · rw [List.getElem?_eq_none (by simp; omega), List.getElem?_eq_none (by rw [pcells_len]; omega)]
theorem heap_sortedE {w : World} {g n : Nat} {os : Array Obj} {cur : Array Value} {e : TypeId} {fr : Nat × Nat} (d : Array Value) (hb : w.heap[g]? = some (.cells cur e fr)) :
    (grow (putRow id (Sort.ahead w n) g 0 d) os).heap[g]? = some (.cells (putCells id 0 d cur) e fr) := by
  have hg : g < w.heap.size := (Array.getElem?_eq_some_iff.1 hb).1
  rw [heap_grow_old _ _ (by simpa using hg)]
  simp [putRow, mapBlock, Sort.ahead, Array.getElem?_modify, hb, onCells]
theorem grown_sortedE {w : World} {g n : Nat} {os : Array Obj} (d : Array Value) : w.grownBy (grow (putRow id (Sort.ahead w n) g 0 d) os) (some g) := by
  refine ⟨rfl, rfl, rfl, by simp, fun k hk hne => ?_⟩
  rw [heap_grow_old _ _ (by simpa using hk)]
  have : g ≠ k := fun e => hne (by rw [e])
  simp [putRow, mapBlock, Sort.ahead, Array.getElem?_modify, this]
theorem take_putE (cur d : Array Value) (h : d.size ≤ cur.size) : (putCells id 0 d cur).toList.take d.size = d.toList := by
  apply List.ext_getElem?
  intro j
  by_cases hj : j < d.size
  · rw [List.getElem?_take_of_lt hj, Array.getElem?_toList]
    simp [putCells, hj, show j < cur.size by omega]
  · rw [List.getElem?_take_eq_none (by omega), List.getElem?_eq_none (by simp; omega)]
theorem holdsE {w : World} {base g cap n : Nat} {l : List (Int × Int)} (h : w.ownsRow base 31 2 (.slice (some ⟨g, 0, none⟩) n cap) n (pcells l)) (hn : l.length = n) : HoldsK encE 2 w g 0 l.toArray := by
  intro j hj
  have hj' : j < l.length * 2 := by simpa using hj
  refine ⟨?_, h.frozenAt _⟩
  rw [Nat.zero_add, h.cellAt j (by omega), ← flat_pcells, Array.getElem?_toList, Array.getElem?_eq_getElem hj, getElem!_pos _ j hj]
  rfl
set_option maxHeartbeats 2000000 in
theorem insert_none (p : Option Addr) (cap : Nat) (fv : Value) (w : World) :
    Calls Try.prog 91 #[.slice p 0 cap, .int .i64 0, .int .i64 0, fv] w fun e w' => e = .returned (.tuple #[]) ∧ w' = w := by
  go_enter Try.func91, Try.ntmps91
  go_wp2_with fail
  refine wp_loop_rounds 1 ?_
  rw [rounds_succ]
  go_wp2_with fail
  go_end0
  exact ⟨rfl, rfl⟩
set_option maxHeartbeats 2000000 in
set_option maxRecDepth 100000 in
theorem pdq_none (p : Option Addr) (cap : Nat) (lim : Int) (fv : Value) (w : World) :
    Calls Try.prog 78 #[.slice p 0 cap, .int .i64 0, .int .i64 0, .int .i64 lim, fv] w fun e w' => e = .returned (.tuple #[]) ∧ w' = w := by
  go_enter Try.func78, Try.ntmps78
  go_wp2_with fail
  refine wp_loop_rounds 1 ?_
  rw [rounds_succ]
  go_wp2_with (go_at_call 91; refine (insert_none _ _ _ _).mono ?_; rintro e w' ⟨rfl, rfl⟩)
  (try simp only [Exit.inBlock, Exit.then])
  refine bodyPost_ret (results_none rfl _ _ _) rfl ?_
  exact ⟨rfl, rfl⟩
theorem sortE_none (p : Option Addr) (cap : Nat) (fv : Value) (w : World) :
    Calls Try.prog 67 #[.slice p 0 cap, fv] w fun e w' => e = .returned (.tuple #[]) ∧ w' = w := by
  have hl : ∀ W, Calls Try.prog 76 #[.int .u64 0] W fun e w' => e = .returned (.int .i64 (Lib.bitLen 0 : Nat)) ∧ w' = W := fun W => Any.bits_Len Try.lays125 0 W (by omega) (by omega)
  go_enter Try.func67, Try.ntmps67
  go_wp2_with (first | (go_at_call 76; refine (hl _).mono ?_; rintro e w' ⟨rfl, rfl⟩) | (go_at_call 78; refine (pdq_none _ _ _ _ _).mono ?_; rintro e w' ⟨rfl, rfl⟩))
  go_end0
  exact ⟨rfl, rfl⟩
theorem sortE_own {w : World} {base : Nat} {v : Value} {l : List (Int × Int)} (h : w.ownsRow base 31 2 v l.length (pcells l)) (hl : l.length ≤ 8796093022208) :
    Calls Try.prog 67 #[v, .func (Fn.func 68) #[] #[]] w fun e w' => e = .returned (.tuple #[]) ∧ ∃ l', l'.Perm l ∧ (∀ i j, i < j → j < l'.length → ltOf Plan.cmp2 (Plan.edge l' j) (Plan.edge l' i) = false) ∧ w'.ownsRow base 31 2 v l'.length (pcells l') ∧ Below base w w' := by
  rcases h.2 with ⟨hv, h0⟩ | ⟨g, cap, cur, hv, hb, hg, hnc, hcm, hcs, htake⟩
  · subst hv
    have : l = [] := List.length_eq_zero_iff.1 h0
    subst this
    refine (sortE_none none 0 _ w).mono ?_
    rintro e w' ⟨rfl, rfl⟩
    exact ⟨rfl, [], List.Perm.refl _, fun i j h1 h2 => by simp at h2, h, Below.refl _ _⟩
  · subst hv
    have hlt : g < w.heap.size := by
      rcases Nat.lt_or_ge g w.heap.size with h' | h'
      · exact h'
      · simp [Array.getElem?_eq_none h'] at hg
    have eg : ∀ args w, (callFunc 68 args).run Try.prog w = .ok (.enter 68 args) w := enters_of Try.func68 (by kernel_rfl) rfl
    have hcmp : CmpLays Try.prog 68 #[] encE 2 Plan.cmp2 g 0 l.toArray.size w := fun m os dk _ x y => cmpE_any x y _
    have hS := AnyQ.slices_SortFunc Try.laysE 2 Try.isAgg31 Try.sizeOf31 encE (fun _ => rfl) (fun x v hv => by simp [encE] at hv; rcases hv with rfl | rfl <;> rfl) Plan.cmp2 Plan.swo2 68 #[] g 0 cap l.toArray w eg hcmp (holdsE h rfl) hlt (by simp; omega)
    change Calls Try.prog 67 _ _ _ at hS
    have esz : l.toArray.size = l.length := by simp
    rw [esz] at hS
    refine hS.mono ?_
    rintro e w' ⟨rfl, d', n, os, ⟨hs, _, hp⟩, hso, rfl⟩
    rw [esz] at hs
    have hp' : d'.toList.Perm l := by
      rw [Array.extract_eq_self_of_le (by omega), Array.extract_eq_self_of_le (by simp)] at hp
      simpa using hp
    refine ⟨rfl, d'.toList, hp', fun i j h1 h2 => ?_, ?_, ?_⟩
    · have h2' : j < d'.size := by simpa using h2
      have := hso i j (Nat.zero_le _) h1 (by omega)
      unfold Plan.edge
      rw [getElem!_pos d' j h2', getElem!_pos d' i (by omega)] at this
      rw [List.getD_eq_getElem?_getD, List.getElem?_eq_getElem h2, List.getD_eq_getElem?_getD, List.getElem?_eq_getElem (show i < d'.toList.length by simp; omega)]
      simpa using this
    · have e1 : d'.toList.length = l.length := by simpa using hs
      rw [e1]
      have hfl : (flatK encE 2 d').toList = pcells d'.toList := by have := flat_pcells d'.toList; simpa using this
      refine ⟨by rw [pcells_len, e1], .inr ⟨g, cap, _, rfl, hb, heap_sortedE _ hg, hnc, hcm, by simp [putCells, hcs], ?_⟩⟩
      rw [← hfl]
      have h3 := take_putE cur (flatK encE 2 d') (by rw [size_flatK, hs, hcs]; omega)
      rw [size_flatK, hs] at h3
      exact h3
    · exact (Below.refl base w).grown (grown_sortedE _) (by omega) (fun k hk => by cases hk; exact hb)
end Go.Proofs.Ytphaaolnmbadcaa
namespace Go.Proofs.Ytphaaolnmbadcaa
open Go.ChangeShapes Go.WideShapes Go.ChangeAt Go.RowKit
set_option linter.unusedVariables false

set_option maxHeartbeats 2000000 in
set_option maxRecDepth 100000 in
theorem differ_any {w : World} {a : Option Addr} {n c : Nat} {es : List (Int × Int)} (h : Pr w a n es) (hn : n ≤ 8796093022208) :
    Calls Try.prog 52 #[.slice a n c] w fun e w' => e = .returned (.bool (decide es.Nodup)) ∧ Below w.heap.size w w' := by
  have HC : Hid (Calls Try.prog 66 #[.slice a n c] w fun e w' => ∃ v, e = .returned v ∧ w'.ownsRow w.heap.size 31 2 v es.length (pcells es) ∧ Below w.heap.size w w') := by
    cases a with
    | none =>
      have h0 : n = 0 := by
        rcases h.2.2 with h0 | ⟨b, off, e, _⟩
        · exact h0
        · cases e
      have he : es = [] := List.length_eq_zero_iff.1 (h.1.trans h0)
      refine (clone_nil w n c).mono ?_
      rintro e w' ⟨rfl, rfl⟩
      subst he
      exact ⟨_, rfl, World.ownsRow_nil _ _ _ _, Below.refl _ _⟩
    | some ad => exact clone_pr h hn
  have hln := h.1
  have HL : Hid (es.length ≤ 8796093022208) := by show _ ≤ _; omega
  clear h
  go_enter Try.func52, Try.ntmps52
  go_wp2_with fail
  refine Calls.mono HC.out ?_
  rintro e w1 ⟨v, rfl, ho, hB⟩
  have HO : Hid (w1.ownsRow w.heap.size 31 2 v es.length (pcells es)) := ho
  have HB : Hid (Below w.heap.size w w1) := hB
  clear ho hB
  go_wp2_with fail
  refine (sortE_own HO.out HL.out).mono ?_
  rintro e w2 ⟨rfl, l', hp, hso, ho2, hB2⟩
  have HO2 : Hid (w2.ownsRow w.heap.size 31 2 v l'.length (pcells l')) := ho2
  have HB2 : Hid (Below w.heap.size w w2) := HB.out.trans hB2
  have HN : Hid (Plan.Adj l' ↔ es.Nodup) := (Plan.adj_nodup hso).trans hp.nodup_iff
  have HL2 : Hid (l'.length = n) := hp.length_eq.trans hln
  clear hp hso ho2 hB2
  go_wp2_with fail
  refine (compactE_own HO2.out (by have := HL2.out; omega)).mono ?_
  rintro e w3 ⟨a3, m, cap3, rfl, hm, hB3⟩
  rw [HL2.out] at hm
  have HM : Hid (m = n ↔ es.Nodup) := hm.trans HN.out
  have HB3 : Hid (Below w.heap.size w w3) := HB2.out.trans hB3
  clear hm hB3
  by_cases hq : m = n
  · have hd : decide es.Nodup = true := decide_eq_true (HM.out.1 hq)
    have HD : Hid (decide es.Nodup = true) := hd
    have hq' : ((m : Int) == n) = true := by rw [beq_iff_eq]; omega
    clear hd hq
    go_wp2_with fail
    go_ret
    exact ⟨by rw [HD.out]; rfl, HB3.out⟩
  · have hd : decide es.Nodup = false := decide_eq_false (fun h => hq (HM.out.2 h))
    have HD : Hid (decide es.Nodup = false) := hd
    have hq' : ((m : Int) == n) = false := by rw [beq_eq_false_iff_ne]; omega
    clear hd hq
    go_wp2_with fail
    go_ret
    exact ⟨by rw [HD.out]; rfl, HB3.out⟩
theorem Plan.edgesOk_parts (N : Int) (es : List (Int × Int)) : Plan.edgesOk N es = (decide (es.length ≤ 15) && es.all (Plan.goodB N) && decide es.Nodup) := by
  have h : es.all (Plan.goodB N) = es.all (fun e => decide (0 ≤ e.1) && decide (e.1 < e.2) && decide (e.2 < N)) := rfl
  rw [h]
  unfold Plan.edgesOk
  generalize es.all _ = a
  generalize decide es.Nodup = b
  generalize decide (es.length ≤ 15) = c
  cases a <;> cases b <;> cases c <;> rfl
set_option maxHeartbeats 2000000 in
set_option maxRecDepth 100000 in
theorem edges_any {w : World} {p : PV} {es : List (Int × Int)} {ws : List Int} {ns : List Nat} (h : Pl w p es ws ns) (hN : 2 ≤ p.nodes ∧ p.nodes ≤ 6) :
    Calls Try.prog 35 #[p.val] w fun e w' => e = .returned (.bool (Plan.edgesOk p.nodes es)) ∧ Below w.heap.size w w' := by
  have HX : Hid (Bxd (w.alloc p.obj) w.heap.size p) := bxd_new w p
  have HW : Hid (Below w.heap.size w (w.alloc p.obj)) := fresh _ _
  have HE : Hid (Pr w p.ea p.en es) := h.he
  have HI : Hid (∀ x ∈ es, I64 x.1 ∧ I64 x.2) := h.ei
  have heb := h.eb
  have hen := h.he.1
  clear h
  obtain ⟨N, lanes, room, queue, rounds, every, bag, start, ea, en, ec, wa, wn, wc, na, nn, nc⟩ := p
  simp only [PV.val, PV.obj] at HX HW HE heb hen hN ⊢
  have HN : Hid (2 ≤ N ∧ N ≤ 6) := hN
  clear hN
  rw [Plan.edgesOk_parts, hen]
  by_cases h15 : en ≤ 15
  · have h15' : (en : Int) ≤ 15 := by omega
    rw [decide_eq_true h15, Bool.true_and]
    cases hA : es.all (Plan.goodB N) with
    | false =>
      go_enter Try.func35, Try.ntmps35
      go_wp2_with (go_at_call 51; refine (econt_any (b := w.heap.size) (N := N) (HE.out.below HW.out) heb HI.out HN.out HX.out.c0).mono ?_; rintro e w1 ⟨rfl, hB1⟩; rw [hA]; have HB1 : Hid (Below w.heap.size w w1) := later HW.out hB1; clear hB1)
      go_ret
      exact ⟨rfl, HB1.out⟩
    | true =>
      obtain ⟨t, ht⟩ : ∃ t, decide es.Nodup = t := ⟨_, rfl⟩
      have HT : Hid (decide es.Nodup = t) := ht
      rw [ht, Bool.true_and]
      clear ht
      go_enter Try.func35, Try.ntmps35
      go_wp2_with (first | (go_at_call 51; refine (econt_any (b := w.heap.size) (N := N) (HE.out.below HW.out) heb HI.out HN.out HX.out.c0).mono ?_; rintro e w1 ⟨rfl, hB1⟩; rw [hA]; have x1 := (HX.out.below hB1).c1; simp only at x1; have HB1 : Hid (Below w.heap.size w w1) := later HW.out hB1; clear hB1) | (go_at_call 52; refine (differ_any (HE.out.below HB1.out) heb).mono ?_; rintro e w2 ⟨rfl, hB2⟩; rw [HT.out]; have HB2 : Hid (Below w.heap.size w w2) := later HB1.out hB2; clear hB2))
      go_ret
      exact ⟨rfl, HB2.out⟩
  · have h15' : ¬ (en : Int) ≤ 15 := by omega
    rw [decide_eq_false h15]
    go_enter Try.func35, Try.ntmps35
    go_wp2_with fail
    go_ret
    exact ⟨rfl, HW.out⟩
theorem Plan.may_parts (q : Plan.Num) (es : List (Int × Int)) (ws : List Int) (ns : List Nat) : Plan.may q es ws ns = (Plan.fine q && Plan.edgesOk q.nodes es && (decide ((ws.length : Int) = q.lanes) && Plan.wsOk ws) && (decide ((ns.length : Int) = q.nodes) && ns.all (fun n => decide ((n : Int) = q.nodes)))) := by
  unfold Plan.may
  simp only [Bool.and_assoc]
theorem Plan.fine_nodes {q : Plan.Num} (h : Plan.fine q = true) : 2 ≤ q.nodes ∧ q.nodes ≤ 6 := by
  unfold Plan.fine at h
  simp only [Bool.and_eq_true] at h
  have := h.1.1.1.1.1.1
  unfold Plan.bnd at this
  simpa using this
set_option maxHeartbeats 4000000 in
set_option maxRecDepth 100000 in
theorem check_any {w : World} {p : PV} {es : List (Int × Int)} {ws : List Int} {ns : List Nat} (h : Pl w p es ws ns) :
    Calls Try.prog 21 #[p.val] w fun e w' => e = .returned (.int .u16 (Plan.errno (Plan.may p.num es ws ns))) ∧ Below w.heap.size w w' := by
  have HX : Hid (Bxd (w.alloc p.obj) w.heap.size p) := bxd_new w p
  have HW : Hid (Below w.heap.size w (w.alloc p.obj)) := fresh _ _
  have HP : Hid (Pl w p es ws ns) := h
  clear h
  have C1 := fun (u : World) => numbers_any u p
  have C2 := fun (u : World) (hu : Below w.heap.size w u) (hf : 2 ≤ p.nodes ∧ p.nodes ≤ 6) => edges_any (HP.out.below hu) hf
  have C3 := fun (u : World) (hu : Below w.heap.size w u) => weights_any (HP.out.below hu)
  have C4 := fun (u : World) (hu : Below w.heap.size w u) => next_any (HP.out.below hu)
  have HF : Plan.fine p.num = true → 2 ≤ p.nodes ∧ p.nodes ≤ 6 := @Plan.fine_nodes p.num
  obtain ⟨t1, ht1⟩ : ∃ t, Plan.fine p.num = t := ⟨_, rfl⟩
  obtain ⟨t2, ht2⟩ : ∃ t, Plan.edgesOk p.nodes es = t := ⟨_, rfl⟩
  obtain ⟨t3, ht3⟩ : ∃ t, (decide ((ws.length : Int) = p.lanes) && Plan.wsOk ws) = t := ⟨_, rfl⟩
  obtain ⟨t4, ht4⟩ : ∃ t, (decide ((ns.length : Int) = p.nodes) && ns.all (fun n => decide ((n : Int) = p.nodes))) = t := ⟨_, rfl⟩
  have hM : Plan.may p.num es ws ns = (t1 && t2 && t3 && t4) := by
    rw [← ht1, ← ht2, ← ht3, ← ht4]
    exact Plan.may_parts p.num es ws ns
  rw [hM]
  rw [ht1] at C1 HF
  rw [ht2] at C2
  rw [ht3] at C3
  rw [ht4] at C4
  clear ht1 ht2 ht3 ht4 hM
  obtain ⟨N, lanes, room, queue, rounds, every, bag, start, ea, en, ec, wa, wn, wc, na, nn, nc⟩ := p
  simp only [PV.val, PV.obj] at HX HW C1 C2 C3 C4 HF ⊢
  have D1 : Hid _ := C1
  have D2 : Hid _ := C2
  have D3 : Hid _ := C3
  have D4 : Hid _ := C4
  have DF : Hid _ := HF
  clear C1 C2 C3 C4 HF
  cases t1 with
  | false =>
    go_enter Try.func21, Try.ntmps21
    go_wp2_with (go_at_call 34; refine Calls.mono (D1.out _) ?_; rintro e w1 ⟨rfl, hB⟩; have HX1 : Hid (Bxd w1 w.heap.size ⟨N, lanes, room, queue, rounds, every, bag, start, ea, en, ec, wa, wn, wc, na, nn, nc⟩) := HX.out.below hB; obtain ⟨x1_0, x1_1, x1_2, x1_3, x1_4, x1_5, x1_6, x1_7, x1_8, x1_9, x1_10⟩ := HX.out.below hB; simp only at x1_0 x1_1 x1_2 x1_3 x1_4 x1_5 x1_6 x1_7 x1_8 x1_9 x1_10; have HB1 : Hid (Below w.heap.size w w1) := later HW.out hB; clear hB)
    go_ret
    exact ⟨rfl, HB1.out⟩
  | true =>
    have hN := DF.out rfl
    have HN : Hid (2 ≤ N ∧ N ≤ 6) := hN
    clear hN
    cases t2 with
    | false =>
      go_enter Try.func21, Try.ntmps21
      go_wp2_with (first | (go_at_call 35; refine Calls.mono (D2.out _ HB1.out HN.out) ?_; rintro e w2 ⟨rfl, hB⟩; have HX2 : Hid (Bxd w2 w.heap.size ⟨N, lanes, room, queue, rounds, every, bag, start, ea, en, ec, wa, wn, wc, na, nn, nc⟩) := HX1.out.below hB; obtain ⟨x2_0, x2_1, x2_2, x2_3, x2_4, x2_5, x2_6, x2_7, x2_8, x2_9, x2_10⟩ := HX1.out.below hB; simp only at x2_0 x2_1 x2_2 x2_3 x2_4 x2_5 x2_6 x2_7 x2_8 x2_9 x2_10; have HB2 : Hid (Below w.heap.size w w2) := later HB1.out hB; clear hB) | (go_at_call 34; refine Calls.mono (D1.out _) ?_; rintro e w1 ⟨rfl, hB⟩; have HX1 : Hid (Bxd w1 w.heap.size ⟨N, lanes, room, queue, rounds, every, bag, start, ea, en, ec, wa, wn, wc, na, nn, nc⟩) := HX.out.below hB; obtain ⟨x1_0, x1_1, x1_2, x1_3, x1_4, x1_5, x1_6, x1_7, x1_8, x1_9, x1_10⟩ := HX.out.below hB; simp only at x1_0 x1_1 x1_2 x1_3 x1_4 x1_5 x1_6 x1_7 x1_8 x1_9 x1_10; have HB1 : Hid (Below w.heap.size w w1) := later HW.out hB; clear hB))
      go_ret
      exact ⟨rfl, HB2.out⟩
    | true =>
      cases t3 with
      | false =>
        go_enter Try.func21, Try.ntmps21
        go_wp2_with (first | (go_at_call 36; refine Calls.mono (D3.out _ HB2.out) ?_; rintro e w3 ⟨rfl, hB⟩; have HX3 : Hid (Bxd w3 w.heap.size ⟨N, lanes, room, queue, rounds, every, bag, start, ea, en, ec, wa, wn, wc, na, nn, nc⟩) := HX2.out.below hB; obtain ⟨x3_0, x3_1, x3_2, x3_3, x3_4, x3_5, x3_6, x3_7, x3_8, x3_9, x3_10⟩ := HX2.out.below hB; simp only at x3_0 x3_1 x3_2 x3_3 x3_4 x3_5 x3_6 x3_7 x3_8 x3_9 x3_10; have HB3 : Hid (Below w.heap.size w w3) := later HB2.out hB; clear hB) | (go_at_call 35; refine Calls.mono (D2.out _ HB1.out HN.out) ?_; rintro e w2 ⟨rfl, hB⟩; have HX2 : Hid (Bxd w2 w.heap.size ⟨N, lanes, room, queue, rounds, every, bag, start, ea, en, ec, wa, wn, wc, na, nn, nc⟩) := HX1.out.below hB; obtain ⟨x2_0, x2_1, x2_2, x2_3, x2_4, x2_5, x2_6, x2_7, x2_8, x2_9, x2_10⟩ := HX1.out.below hB; simp only at x2_0 x2_1 x2_2 x2_3 x2_4 x2_5 x2_6 x2_7 x2_8 x2_9 x2_10; have HB2 : Hid (Below w.heap.size w w2) := later HB1.out hB; clear hB) | (go_at_call 34; refine Calls.mono (D1.out _) ?_; rintro e w1 ⟨rfl, hB⟩; have HX1 : Hid (Bxd w1 w.heap.size ⟨N, lanes, room, queue, rounds, every, bag, start, ea, en, ec, wa, wn, wc, na, nn, nc⟩) := HX.out.below hB; obtain ⟨x1_0, x1_1, x1_2, x1_3, x1_4, x1_5, x1_6, x1_7, x1_8, x1_9, x1_10⟩ := HX.out.below hB; simp only at x1_0 x1_1 x1_2 x1_3 x1_4 x1_5 x1_6 x1_7 x1_8 x1_9 x1_10; have HB1 : Hid (Below w.heap.size w w1) := later HW.out hB; clear hB))
        go_ret
        exact ⟨rfl, HB3.out⟩
      | true =>
        cases t4 with
        | false =>
          go_enter Try.func21, Try.ntmps21
          go_wp2_with (first | (go_at_call 37; refine Calls.mono (D4.out _ HB3.out) ?_; rintro e w4 ⟨rfl, hB⟩; have HX4 : Hid (Bxd w4 w.heap.size ⟨N, lanes, room, queue, rounds, every, bag, start, ea, en, ec, wa, wn, wc, na, nn, nc⟩) := HX3.out.below hB; obtain ⟨x4_0, x4_1, x4_2, x4_3, x4_4, x4_5, x4_6, x4_7, x4_8, x4_9, x4_10⟩ := HX3.out.below hB; simp only at x4_0 x4_1 x4_2 x4_3 x4_4 x4_5 x4_6 x4_7 x4_8 x4_9 x4_10; have HB4 : Hid (Below w.heap.size w w4) := later HB3.out hB; clear hB) | (go_at_call 36; refine Calls.mono (D3.out _ HB2.out) ?_; rintro e w3 ⟨rfl, hB⟩; have HX3 : Hid (Bxd w3 w.heap.size ⟨N, lanes, room, queue, rounds, every, bag, start, ea, en, ec, wa, wn, wc, na, nn, nc⟩) := HX2.out.below hB; obtain ⟨x3_0, x3_1, x3_2, x3_3, x3_4, x3_5, x3_6, x3_7, x3_8, x3_9, x3_10⟩ := HX2.out.below hB; simp only at x3_0 x3_1 x3_2 x3_3 x3_4 x3_5 x3_6 x3_7 x3_8 x3_9 x3_10; have HB3 : Hid (Below w.heap.size w w3) := later HB2.out hB; clear hB) | (go_at_call 35; refine Calls.mono (D2.out _ HB1.out HN.out) ?_; rintro e w2 ⟨rfl, hB⟩; have HX2 : Hid (Bxd w2 w.heap.size ⟨N, lanes, room, queue, rounds, every, bag, start, ea, en, ec, wa, wn, wc, na, nn, nc⟩) := HX1.out.below hB; obtain ⟨x2_0, x2_1, x2_2, x2_3, x2_4, x2_5, x2_6, x2_7, x2_8, x2_9, x2_10⟩ := HX1.out.below hB; simp only at x2_0 x2_1 x2_2 x2_3 x2_4 x2_5 x2_6 x2_7 x2_8 x2_9 x2_10; have HB2 : Hid (Below w.heap.size w w2) := later HB1.out hB; clear hB) | (go_at_call 34; refine Calls.mono (D1.out _) ?_; rintro e w1 ⟨rfl, hB⟩; have HX1 : Hid (Bxd w1 w.heap.size ⟨N, lanes, room, queue, rounds, every, bag, start, ea, en, ec, wa, wn, wc, na, nn, nc⟩) := HX.out.below hB; obtain ⟨x1_0, x1_1, x1_2, x1_3, x1_4, x1_5, x1_6, x1_7, x1_8, x1_9, x1_10⟩ := HX.out.below hB; simp only at x1_0 x1_1 x1_2 x1_3 x1_4 x1_5 x1_6 x1_7 x1_8 x1_9 x1_10; have HB1 : Hid (Below w.heap.size w w1) := later HW.out hB; clear hB))
          go_ret
          exact ⟨rfl, HB4.out⟩
        | true =>
          go_enter Try.func21, Try.ntmps21
          go_wp2_with (first | (go_at_call 37; refine Calls.mono (D4.out _ HB3.out) ?_; rintro e w4 ⟨rfl, hB⟩; have HX4 : Hid (Bxd w4 w.heap.size ⟨N, lanes, room, queue, rounds, every, bag, start, ea, en, ec, wa, wn, wc, na, nn, nc⟩) := HX3.out.below hB; obtain ⟨x4_0, x4_1, x4_2, x4_3, x4_4, x4_5, x4_6, x4_7, x4_8, x4_9, x4_10⟩ := HX3.out.below hB; simp only at x4_0 x4_1 x4_2 x4_3 x4_4 x4_5 x4_6 x4_7 x4_8 x4_9 x4_10; have HB4 : Hid (Below w.heap.size w w4) := later HB3.out hB; clear hB) | (go_at_call 36; refine Calls.mono (D3.out _ HB2.out) ?_; rintro e w3 ⟨rfl, hB⟩; have HX3 : Hid (Bxd w3 w.heap.size ⟨N, lanes, room, queue, rounds, every, bag, start, ea, en, ec, wa, wn, wc, na, nn, nc⟩) := HX2.out.below hB; obtain ⟨x3_0, x3_1, x3_2, x3_3, x3_4, x3_5, x3_6, x3_7, x3_8, x3_9, x3_10⟩ := HX2.out.below hB; simp only at x3_0 x3_1 x3_2 x3_3 x3_4 x3_5 x3_6 x3_7 x3_8 x3_9 x3_10; have HB3 : Hid (Below w.heap.size w w3) := later HB2.out hB; clear hB) | (go_at_call 35; refine Calls.mono (D2.out _ HB1.out HN.out) ?_; rintro e w2 ⟨rfl, hB⟩; have HX2 : Hid (Bxd w2 w.heap.size ⟨N, lanes, room, queue, rounds, every, bag, start, ea, en, ec, wa, wn, wc, na, nn, nc⟩) := HX1.out.below hB; obtain ⟨x2_0, x2_1, x2_2, x2_3, x2_4, x2_5, x2_6, x2_7, x2_8, x2_9, x2_10⟩ := HX1.out.below hB; simp only at x2_0 x2_1 x2_2 x2_3 x2_4 x2_5 x2_6 x2_7 x2_8 x2_9 x2_10; have HB2 : Hid (Below w.heap.size w w2) := later HB1.out hB; clear hB) | (go_at_call 34; refine Calls.mono (D1.out _) ?_; rintro e w1 ⟨rfl, hB⟩; have HX1 : Hid (Bxd w1 w.heap.size ⟨N, lanes, room, queue, rounds, every, bag, start, ea, en, ec, wa, wn, wc, na, nn, nc⟩) := HX.out.below hB; obtain ⟨x1_0, x1_1, x1_2, x1_3, x1_4, x1_5, x1_6, x1_7, x1_8, x1_9, x1_10⟩ := HX.out.below hB; simp only at x1_0 x1_1 x1_2 x1_3 x1_4 x1_5 x1_6 x1_7 x1_8 x1_9 x1_10; have HB1 : Hid (Below w.heap.size w w1) := later HW.out hB; clear hB))
          go_ret
          exact ⟨rfl, HB4.out⟩
end Go.Proofs.Ytphaaolnmbadcaa
namespace Go.Proofs.Ytphaaolnmbadcaa
open Go.ChangeShapes Go.WideShapes Go.ChangeAt Go.RowKit
set_option linter.unusedVariables false

namespace Plan
theorem place_in {x : Int} : ∀ (l : List Int) (k : Nat), Asc l → x ∈ l → place x l k = ((k + l.countP (fun y => decide (y < x)) : Nat) : Int) + 1
  | [], k, _, h => by simp at h
  | y :: r, k, h1, h2 => by
    obtain ⟨a1, a2⟩ := List.pairwise_cons.1 h1
    unfold place
    by_cases e : y = x
    · subst e
      rw [if_pos rfl]
      have h0 : (y :: r).countP (fun z => decide (z < y)) = 0 := by
        rw [List.countP_eq_zero]
        intro z hz
        rcases List.mem_cons.1 hz with e | e
        · subst e; simp
        · have := a1 z e
          simp; omega
      rw [h0, Nat.add_zero]
    · have h3 : x ∈ r := by
        rcases List.mem_cons.1 h2 with e2 | e2
        · exact absurd e2.symm e
        · exact e2
      have h4 := a1 x h3
      rw [if_neg e, place_in r (k + 1) a2 h3, List.countP_cons_of_pos (by simpa using h4)]
      omega
theorem place_out {x : Int} : ∀ (l : List Int) (k : Nat), x ∉ l → place x l k = -1
  | [], k, _ => rfl
  | y :: r, k, h => by
    unfold place
    rw [if_neg (fun e => h (by rw [e]; exact List.mem_cons_self)), place_out r (k + 1) (fun e => h (List.mem_cons_of_mem _ e))]
end Plan
set_option maxHeartbeats 4000000 in
set_option maxRecDepth 100000 in
theorem hops_own {w : World} {p : PV} {es : List (Int × Int)} {ws : List Int} {ns : List Nat} (h : Pl w p es ws ns) :
    Calls Try.prog 27 #[p.val] w fun e w' => ∃ u, e = .returned u ∧ w'.ownsRow w.heap.size 56 2 u (Plan.hops p.nodes es).length (pcells (Plan.hops p.nodes es)) ∧ Below w.heap.size w w' := by
  have HP : Hid (Pl w p es ws ns) := h
  have hqi := h.qi.1
  clear h
  have HX : Hid (Bxd (w.alloc p.obj) w.heap.size p) := bxd_new w p
  have HW : Hid (Below w.heap.size w (w.alloc p.obj) ∧ (w.alloc p.obj).heap.size = w.heap.size + 1) := ⟨fresh _ _, by simp⟩
  simp only [PV.val, PV.obj] at HX HW ⊢
  go_enter Try.func27, Try.ntmps27
  go_wp2_with fail
  generalize w.alloc _ = W1 at HX HW ⊢
  obtain ⟨U, hU⟩ : ∃ U, min p.nodes 6 = U := ⟨_, rfl⟩
  have HU : Hid (min p.nodes 6 = U) := hU
  rw [hU]
  clear hU hqi
  go_loopw [3, 10] (fun u i wr => ∃ k : Nat, k ≤ Plan.upto p.nodes ∧ i = .int .i64 k ∧ wr.ownsRow W1.heap.size 56 2 u (Plan.hopsTo es k).length (pcells (Plan.hopsTo es k)) ∧ Below W1.heap.size W1 wr) (fun _ i _ => Plan.upto p.nodes - (intOf i).toNat)
  case atStart => exact ⟨0, Nat.zero_le _, rfl, World.ownsRow_nil _ _ _ _, Below.refl _ _⟩
  case round =>
    obtain ⟨k, hk, rfl, hO, hB⟩ := hrel
    have HO : Hid (wr.ownsRow W1.heap.size 56 2 u3 (Plan.hopsTo es k).length (pcells (Plan.hopsTo es k))) := hO
    have HB : Hid (Below W1.heap.size W1 wr) := hB
    have hx := HX.out.below hB
    have hup : Plan.upto p.nodes ≤ 6 := by unfold Plan.upto; omega
    clear hO hB
    by_cases hkn : k < Plan.upto p.nodes
    · have hkU : (k : Int) < U := by have := HU.out; unfold Plan.upto at hkn; omega
      have HK : Hid (k < Plan.upto p.nodes ∧ Plan.upto p.nodes ≤ 6) := ⟨hkn, hup⟩
      obtain ⟨hc0, hc1, hc2, hc3, hc4, hc5, hc6, hc7, hc8, hc9, hc10⟩ := hx
      have hk6 : k < 6 := by omega
      clear hkn hup hk
      have hsz := HB.out.size
      obtain ⟨l, hl⟩ : ∃ l, Plan.bes es (k : Int) = l := ⟨_, rfl⟩
      have HL : Hid (Plan.bes es (k : Int) = l) := hl
      have HA : Hid (Plan.Asc l) := by have := Plan.bes_asc es (k : Int); rw [hl] at this; exact this
      have hbl : l.length ≤ 8796093022208 := by have h1 := Plan.bes_len es (k : Int); have h2 := HP.out.eb; have h3 := HP.out.he.1; rw [hl] at h1; omega
      have HTl : Hid ((Plan.hopsTo es k).length ≤ 6 * k) := Plan.hopsTo_len es k
      clear hl
      go_wp2_with (go_at_call 39; refine (beside_raw (p := p) ((HP.out.below HW.out.1).below HB.out) (k : Int)).mono ?_; rintro e w2 ⟨v2, rfl, hown2, hB2⟩; rw [HL.out] at hown2; obtain ⟨a2, cap2, rfl, hz2, _, _, _, hcap2⟩ := zr_of_owns hown2; have hne2 : ∀ ad, a2 = some ad → u3.ownBlock ≠ some ad.block := apart_of hcap2 HO.out; have HB2 : Hid (Below W1.heap.size W1 w2) := HB.out.trans (hB2.mono hsz); have HZ : Hid (Zr w2 a2 l.length l) := hz2; have HO2 : Hid (w2.ownsRow W1.heap.size 56 2 u3 (Plan.hopsTo es k).length (pcells (Plan.hopsTo es k))) := owns_below HO.out hB2; clear hz2 hown2 hB2 hcap2 hc0 hc1 hc2 hc3 hc4 hc5 hc6 hc7 hc8 hc9 hc10)
      have HNE2 : Hid (∀ ad, a2 = some ad → u3.ownBlock ≠ some ad.block) := hne2
      clear hne2
      go_loopw [3, 17] (fun u i ws => ∃ j : Nat, j ≤ l.length ∧ i = .int .i64 j ∧ ws.ownsRow W1.heap.size 56 2 u (Plan.hopsTo es k ++ Plan.hopsPart l k j).length (pcells (Plan.hopsTo es k ++ Plan.hopsPart l k j)) ∧ Below W1.heap.size W1 ws ∧ Zr ws a2 l.length l ∧ (∀ ad, a2 = some ad → u.ownBlock ≠ some ad.block)) (fun _ i _ => l.length - (intOf i).toNat)
      case atStart => exact ⟨0, Nat.zero_le _, rfl, by rw [Plan.hopsPart_zero, List.append_nil]; exact HO2.out, HB2.out, HZ.out, HNE2.out⟩
      case round =>
        obtain ⟨j, hj, rfl, hO3, hB3, hZ3, hne3⟩ := hrel
        have HO3 : Hid (wr.ownsRow W1.heap.size 56 2 u3 (Plan.hopsTo es k ++ Plan.hopsPart l k j).length (pcells (Plan.hopsTo es k ++ Plan.hopsPart l k j))) := hO3
        have HB3 : Hid (Below W1.heap.size W1 wr) := hB3
        have HZ3 : Hid (Zr wr a2 l.length l) := hZ3
        have HNE : Hid (∀ ad, a2 = some ad → u3.ownBlock ≠ some ad.block) := hne3
        clear hO3 hB3 hZ3 hne3
        have hsz3 := HB3.out.size
        by_cases hjn : j < l.length
        · obtain ⟨b, off, ha, hcell⟩ := HZ3.out.at hjn
          have HNB : Hid (u3.ownBlock ≠ some b) := HNE.out _ ha
          subst ha
          obtain ⟨y, hy⟩ : ∃ y, l.getD j 0 = y := ⟨_, rfl⟩
          have HY : Hid (l.getD j 0 = y) := hy
          rw [hy] at hcell
          clear hy
          cases hb : Plan.bnd y 0 5 with
          | true =>
            have h12 : 0 ≤ y ∧ y ≤ 5 := by unfold Plan.bnd at hb; simpa using hb
            have hpl : (Plan.hopsPart l k j).length ≤ 6 := Plan.hopsPart_len k j HA.out
            have HS : Hid ((Plan.hopsTo es k ++ Plan.hopsPart l k j) ++ [((k : Int), y)] = Plan.hopsTo es k ++ Plan.hopsPart l k (j + 1)) := by
              show _ = _
              rw [Plan.hopsPart_hit hjn (by rw [HY.out]; exact h12.1) (by rw [HY.out]; omega), List.append_assoc, HY.out]
            have HLL : Hid ((Plan.hopsTo es k ++ Plan.hopsPart l k j).length ≤ 100) := by
              show _ ≤ _
              have := HTl.out
              have := HK.out
              rw [List.length_append]
              omega
            clear hpl h12
            go_wp2_with (first | (go_at_call 43; refine (within_any y 0 5 _).mono ?_; rintro e w' ⟨rfl, hq⟩; obtain rfl := hq.symm; rw [hb]) | (at_builtin; refine wpList_append_p' rfl _ _ 53 56 rfl Try.underlying53 infoH W1.heap.size u3 (Plan.hopsTo es k ++ Plan.hopsPart l k j) rfl (owns_below HO3.out (fresh _ _)) (by simp; omega) _ 1 _ [((k : Int), y)] rfl (pr_one wr k y _) (fun e => by cases e) (by have := HLL.out; omega) _ HS.out ?_; intro v4 w4 hown4 hB4 hg4 hat4))
            go_roundw
            case rel =>
              have R3 : Zr w4 (some ⟨b, off, none⟩) l.length l := (HZ3.out.below (fresh _ _)).grown hg4 (fun ad e => by cases e; exact HNB.out)
              have R4 : ∀ ad, some (⟨b, off, none⟩ : Addr) = some ad → v4.ownBlock ≠ some ad.block := by
                intro ad e hv
                cases e
                rcases hat4 with h | h
                · exact HNB.out (h.symm.trans hv)
                · rw [h] at hv
                  have := cell_lt hcell
                  simp only [World.size_alloc, Option.some.injEq] at hv
                  simp only at this
                  omega
              first | exact ⟨j + 1, by omega, by go_num, hown4, (HB3.out.alloc hsz3 _).trans hB4, R3, R4⟩ | ((repeat apply Exists.intro); exact ⟨⟨j + 1, by omega, by go_num, hown4, (HB3.out.alloc hsz3 _).trans hB4, R3, R4⟩, rfl⟩)
            case measure => simp [intOf]; omega
          | false =>
            have h12 : ¬ (0 ≤ y ∧ y < 6) := fun h => by
              have : Plan.bnd y 0 5 = true := by unfold Plan.bnd; simp; omega
              rw [hb] at this
              cases this
            have HS : Hid (Plan.hopsPart l k (j + 1) = Plan.hopsPart l k j) := Plan.hopsPart_miss hjn (by rw [HY.out]; exact h12)
            clear h12
            go_wp2_with (go_at_call 43; refine (within_any y 0 5 _).mono ?_; rintro e w' ⟨rfl, hq⟩; obtain rfl := hq.symm; rw [hb])
            go_roundw
            case rel =>
              have R1 := HO3.out
              rw [← HS.out] at R1
              first | exact ⟨j + 1, by omega, by go_num, R1, HB3.out, HZ3.out, HNE.out⟩ | ((repeat apply Exists.intro); exact ⟨⟨j + 1, by omega, by go_num, R1, HB3.out, HZ3.out, HNE.out⟩, rfl⟩)
            case measure => simp [intOf]; omega
        · obtain rfl : j = l.length := by omega
          have HS : Hid (Plan.hopsTo es k ++ Plan.hopsPart l k l.length = Plan.hopsTo es (k + 1)) := by
            show _ = _
            rw [Plan.hopsTo_succ, ← Plan.hopsPart_all, HL.out]
          go_wp2_with fail
          go_roundw
          case rel =>
            have R1 := HO3.out
            rw [HS.out] at R1
            first | exact ⟨k + 1, by have := HK.out; omega, by go_num, R1, HB3.out⟩ | ((repeat apply Exists.intro); exact ⟨⟨k + 1, by have := HK.out; omega, by go_num, R1, HB3.out⟩, rfl⟩)
          case measure => have := HK.out; simp [intOf]; omega
    · obtain rfl : k = Plan.upto p.nodes := by omega
      have HR : Hid (∃ u, Ending.returned u3 = Ending.returned u ∧ wr.ownsRow w.heap.size 56 2 u (Plan.hops p.nodes es).length (pcells (Plan.hops p.nodes es)) ∧ Below w.heap.size w wr) := by
        refine ⟨_, rfl, owns_mono HO.out (by have := HW.out.2; omega), HW.out.1.trans (HB.out.mono (by have := HW.out.2; omega))⟩
      have hno : ¬ ((Plan.upto p.nodes : Nat) : Int) < U := by have := HU.out; unfold Plan.upto; omega
      obtain ⟨K, hK⟩ : ∃ K, Plan.upto p.nodes = K := ⟨_, rfl⟩
      rw [hK] at hno ⊢
      clear hx hup hkn hk HO hK
      go_wp2_with fail
      go_ret
      exact HR.out
end Go.Proofs.Ytphaaolnmbadcaa
