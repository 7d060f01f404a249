/-
  Package tree as it landed: nodes, isTree, isNode, and the iterator over a node and all above it. Conditions: none but that the slice leads to numbers.
-/
import Derived.Test.YtipdcpekepiphaaTreeSpec
import Derived.RangeFuncNested
import Derived.RangeFuncBound
import Derived.RangeFuncCalls
import Derived.RangeFuncLeaves
import Derived.Shelf.Abstract
import Derived.Shelf.RegionOpen
import Derived.OwnWalkIn
import Derived.TacticsInMore
import Derived.LoopNIn
import Derived.LoopIn
import Derived.Scope
namespace Go.Proofs.Ytipdcpekepiphaa
open Go.ChangeShapes Go.WideShapes Go.ChangeAt Go.RowKit Go.Shelf
set_option linter.unusedVariables false
attribute [local go_sem] Oper.semAt_some

set_option maxRecDepth 100000 in
theorem nodes_any (w : World) (a : Option Addr) (n c : Nat) (hn : n ≤ 17592186044416) : Calls Try.prog 24 #[.slice a n c] w fun e w' => e = .returned (.int .i64 ((n : Int) + 1)) ∧ w' = w := by
  go_enter Try.func24, Try.ntmps24
  go_wp2_with fail
  go_ret
  exact ⟨rfl, rfl⟩
set_option maxRecDepth 100000 in
theorem isNode_any (w : World) (a : Option Addr) (n c : Nat) (hn : n ≤ 17592186044416) (ps : List Int) (hl : ps.length = n) (v : Int) : Calls Try.prog 28 #[.slice a n c, .int .i64 v] w fun e w' => e = .returned (.bool (Tree.isNode ps v)) ∧ w' = w := by
  have HI : Hid (Tree.isNode ps v = (decide (0 ≤ v) && decide (v < (n : Int) + 1))) := by
    show _ = _
    unfold Tree.isNode
    rw [hl]
    congr 1
    exact decide_eq_decide.2 (by omega)
  clear hl
  go_enter Try.func28, Try.ntmps28
  by_cases h0 : 0 ≤ v
  · have d0 : decide (0 ≤ v) = true := decide_eq_true h0
    go_wp2_with (go_at_call 24; refine (nodes_any _ _ _ _ hn).mono ?_; rintro e w1 ⟨rfl, hq⟩; obtain rfl := hq.symm; clear hq)
    go_ret
    exact ⟨by rw [HI.out, d0, Bool.true_and]; rfl, rfl⟩
  · have d0 : decide (0 ≤ v) = false := decide_eq_false h0
    go_wp2_with fail
    go_ret
    exact ⟨by rw [HI.out, d0, Bool.false_and]; rfl, rfl⟩
set_option maxHeartbeats 1000000 in
set_option maxRecDepth 100000 in
theorem isTree_any {w : World} {a : Option Addr} {n c : Nat} {ps : List Int} (h : Zr w a n ps) (hn : n ≤ 17592186044416) :
    Calls Try.prog 23 #[.slice a n c] w fun e w' => e = .returned (.bool (Tree.ok ps)) ∧ w' = w := by
  have HZ : Hid (Zr w a n ps) := h
  have hln := h.1
  clear h
  go_enter Try.func23, Try.ntmps23
  by_cases h5 : n ≤ 5
  · have d5 : decide ((6 : Int) < (n : Int) + 1) = false := decide_eq_false (by omega)
    go_wp2_with (go_at_call 24; refine (nodes_any _ _ _ _ hn).mono ?_; rintro e w1 ⟨rfl, hq⟩; obtain rfl := hq.symm; clear hq)
    clear d5
    go_loopw [10] (fun i wr => ∃ k : Nat, k ≤ n ∧ i = .int .i64 k ∧ (∀ j, j < k → 0 ≤ ps.getD j 0 ∧ ps.getD j 0 ≤ (j : Int)) ∧ wr = w) (fun i _ => n - (intOf i).toNat)
    case atStart => exact ⟨0, Nat.zero_le _, rfl, fun j hj => by omega, rfl⟩
    case round =>
      obtain ⟨k, hk, rfl, hno, rfl⟩ := hrel
      have HN : Hid (∀ j, j < k → 0 ≤ ps.getD j 0 ∧ ps.getD j 0 ≤ (j : Int)) := hno
      clear hno
      by_cases hkn : k < n
      · obtain ⟨b, off, ha, hc⟩ := HZ.out.at hkn
        subst ha
        obtain ⟨y, hy⟩ : ∃ y, ps.getD k 0 = y := ⟨_, rfl⟩
        have HY : Hid (ps.getD k 0 = y) := hy
        rw [hy] at hc
        clear hy
        by_cases h1 : y < 0
        · have HF : Hid (Tree.ok ps = false) := Tree.low_not (k := k) (by omega) (by rw [HY.out]; omega)
          go_wp2_with fail
          go_ret
          exact ⟨by rw [HF.out]; rfl, rfl⟩
        · by_cases h2 : (k : Int) < y
          · have HF : Hid (Tree.ok ps = false) := Tree.low_not (k := k) (by omega) (by rw [HY.out]; omega)
            go_wp2_with fail
            go_ret
            exact ⟨by rw [HF.out]; rfl, rfl⟩
          · have HR : Hid (0 ≤ y ∧ y ≤ (k : Int)) := by constructor <;> omega
            go_wp2_with fail
            go_roundw
            case rel =>
              have R : ∀ j, j < k + 1 → 0 ≤ ps.getD j 0 ∧ ps.getD j 0 ≤ (j : Int) := fun j hj => by
                by_cases e : j = k
                · subst e; rw [HY.out]; exact HR.out
                · exact HN.out j (by omega)
              first | exact ⟨k + 1, by omega, by go_num, R, rfl⟩ | exact ⟨k + 1, by omega, by go_num, R, trivial⟩ | ((repeat apply Exists.intro); exact ⟨⟨k + 1, by omega, by go_num, R, rfl⟩, rfl⟩)
            case measure => simp [intOf]; omega
      · obtain rfl : k = n := by omega
        have HT : Hid (Tree.ok ps = true) := by
          show _ = _
          rw [Tree.ok_low (fun j hj => HN.out j (by omega)), decide_eq_true_eq]
          omega
        go_wp2_with fail
        go_ret
        exact ⟨by rw [HT.out]; rfl, rfl⟩
  · have d5 : decide ((6 : Int) < (n : Int) + 1) = true := decide_eq_true (by omega)
    have HF : Hid (Tree.ok ps = false) := by
      show _ = _
      unfold Tree.ok
      rw [Bool.and_eq_false_iff]
      exact .inr (decide_eq_false (by omega))
    go_wp2_with (go_at_call 24; refine (nodes_any _ _ _ _ hn).mono ?_; rintro e w1 ⟨rfl, hq⟩; obtain rfl := hq.symm; clear hq)
    go_ret
    exact ⟨by rw [HF.out]; rfl, rfl⟩

/-- ancestors(parents, v): both are boxed; the function value captures the boxes -/
theorem anc_in (F : Fence) (hF : F.fn 29) (hro : F.round = none) (n : Nat) (a : Option Addr) (len c : Nat) (v : Int) (w : World) :
    CallsIn F n Try.prog 29 #[.slice a len c, .int .i64 v] w fun e w' => e = .returned (.func (.func 38) #[] #[.pointer (some ⟨w.heap.size + 1, 0, none⟩), .pointer (some ⟨w.heap.size, 0, none⟩)]) ∧ w' = (w.alloc (.cells #[.slice a len c] 23)).alloc (.cells #[.int .i64 v] 3) := by
  refine callsIn_of_wp Try.func29 rfl hF ?_ hro
  simp only [Try.ntmps29, List.size_toArray, List.length_cons, List.length_nil, Nat.reduceAdd, Nat.reduceSub, Array.replicate_succ, Array.replicate_zero, List.push_toArray, List.append_toArray, List.nil_append, List.cons_append]
  gi_wp2
  go_ret
  exact ⟨rfl, rfl⟩
namespace Tree
theorem par_le {ps : List Int} (ho : ok ps = true) {r : Nat} (h : r < ps.length) : par ps (r + 1) ≤ r ∧ ps.getD r 0 = ((par ps (r + 1) : Nat) : Int) := by
  have := (ok_parts ho).2 r h
  unfold par
  rw [Nat.add_sub_cancel]
  omega
end Tree
set_option maxHeartbeats 1000000 in
set_option maxRecDepth 100000 in
theorem anc1_in (n : Nat) (hn : 1 ≤ n) (l Bv Bp : Nat) (F : Nat → Prop) (a : Option Addr) (len c : Nat) (ps : List Int) (ho : Tree.ok ps = true) (hFp : ¬ F Bp) (hFa : ∀ {W W' : World}, Zr W a len ps → Sans F W W' → Zr W' a len ps) (v : Nat) (hv : v ≤ len) (J Jx : List Int → World → Prop)
    (hY : ∀ pre x W, J pre W → pre.length < (Tree.ups ps 6 v).length → YieldAt Fence.wide (n - 1) Try.prog l #[.int .i64 x] W fun e W' =>
      (e = .returned (.bool true) ∧ J (pre ++ [x]) W' ∧ Sans F W W') ∨ (e = .returned (.bool false) ∧ Jx (pre ++ [x]) W'))
    (W : World) (hBv : W.cell? ⟨Bv, 0, none⟩ = some (.int .i64 (v : Nat))) (hBp : W.cell? ⟨Bp, 0, none⟩ = some (.slice a len c)) (hZ : Zr W a len ps) (h0 : J [] W) :
    CallsIn Fence.wide n Try.prog 38 #[.func (.yield l) #[] #[], .pointer (some ⟨Bv, 0, none⟩), .pointer (some ⟨Bp, 0, none⟩)] W fun e W' => (∃ v, e = .returned v) ∧
      ((∃ ys, ys = Tree.ups ps 6 v ∧ J ys W') ∨ (∃ pre, pre <+: Tree.ups ps 6 v ∧ Jx pre W')) := by
  have HO : Hid (Tree.ok ps = true) := ho
  have HZ : Hid (Zr W a len ps) := hZ
  have HFa : Hid (∀ W W' : World, Zr W a len ps → Sans F W W' → Zr W' a len ps) := fun _ _ h k => hFa h k
  have hl5 := (Tree.ok_parts ho).1
  have hln := hZ.1
  obtain ⟨U, hU⟩ : ∃ U, Tree.ups ps 6 v = U := ⟨_, rfl⟩
  rw [hU] at hY ⊢
  have HU : Hid (Tree.ups ps 6 v = U) := hU
  clear ho hZ hFa hU
  refine callsIn_of_wp Try.func38 rfl trivial ?_ rfl
  simp only [Try.ntmps38, List.size_toArray, List.length_cons, List.length_nil, Nat.reduceAdd, Nat.reduceSub, Array.replicate_succ, Array.replicate_zero, List.push_toArray, List.append_toArray, List.nil_append, List.cons_append]
  gi_wp2
  gi_loopw [4] (fun x wr => ∃ (k f : Nat) (pre : List Int), x = .int .i64 (k : Nat) ∧ k ≤ f ∧ k ≤ len ∧ U = pre ++ Tree.ups ps f k ∧ wr.cell? ⟨Bp, 0, none⟩ = some (.slice a len c) ∧ Zr wr a len ps ∧ J pre wr)
    (fun x _ => (intOf x).toNat)
  case atStart => exact ⟨v, 6, [], rfl, by omega, hv, HU.out.symm, hBp, HZ.out, h0⟩
  case round =>
    obtain ⟨k, f, pre, rfl, hkf, hkl, hx, hcp, hz, hJs⟩ := hrel
    clear hBp hBv HZ
    have HZr : Hid (Zr wr a len ps) := hz
    clear hz
    cases k with
    | zero =>
      rw [Tree.ups_zero] at hx
      have HX : Hid (U = pre ++ [0]) := hx
      obtain ⟨fn, tmps, assign, body, hy, hR⟩ := hY pre 0 wr hJs (by rw [hx]; simp)
      clear hx
      gi_wp2
      refine hR.mono ?_
      rintro e W3 (⟨rfl, hJ3, hk3⟩ | ⟨rfl, hJx3⟩)
      · gi_wp2
        go_end0
        exact ⟨⟨_, rfl⟩, .inl ⟨_, HX.out.symm, hJ3⟩⟩
      · gi_wp2
        go_end0
        exact ⟨⟨_, rfl⟩, .inr ⟨_, by rw [HX.out]; exact List.prefix_refl _, hJx3⟩⟩
    | succ r =>
      obtain ⟨f, rfl⟩ : ∃ g, f = g + 1 := ⟨f - 1, by omega⟩
      rw [Tree.ups_step ps f (r + 1) (by omega)] at hx
      obtain ⟨hp1, hp2⟩ := Tree.par_le HO.out (r := r) (by omega)
      obtain ⟨q, hq⟩ : ∃ q, Tree.par ps (r + 1) = q := ⟨_, rfl⟩
      rw [hq] at hx hp1 hp2
      clear hq
      have hx2 : U = (pre ++ [((r : Int) + 1)]) ++ Tree.ups ps f q := by rw [hx, show ((r + 1 : Nat) : Int) = (r : Int) + 1 from rfl]; simp
      have HX : Hid (U = (pre ++ [((r : Int) + 1)]) ++ Tree.ups ps f q) := hx2
      obtain ⟨fn, tmps, assign, body, hy, hR⟩ := hY pre ((r : Int) + 1) wr hJs (by rw [hx]; simp)
      clear hx hx2
      have hr0 : (0 : Int) < (r : Int) + 1 := by omega
      gi_wp2
      refine hR.mono ?_
      rintro e W3 (⟨rfl, hJ3, hk3⟩ | ⟨rfl, hJx3⟩)
      · have hcp3 : W3.cell? ⟨Bp, 0, none⟩ = some (.slice a len c) := (hk3.cell (p := ⟨Bp, 0, none⟩) (cell_lt hcp) hFp).trans hcp
        have HZ3 : Hid (Zr W3 a len ps) := HFa.out _ _ HZr.out hk3
        obtain ⟨b, off, ha, hc⟩ := HZ3.out.at (show r < len by omega)
        rw [hp2] at hc
        subst ha
        clear hk3
        gi_wp2
        go_roundw
        case rel => exact ⟨q, f, pre ++ [((r : Int) + 1)], rfl, by omega, by omega, HX.out, hcp3, HZ3.out, hJ3⟩
        case measure => simp [intOf]; omega
      · gi_wp2
        go_end0
        exact ⟨⟨_, rfl⟩, .inr ⟨_, ⟨_, HX.out.symm⟩, hJx3⟩⟩
theorem anc_stops (n : Nat) (hn : 1 ≤ n) (Bv Bp : Nat) (F : Nat → Prop) (a : Option Addr) (len c : Nat) (ps : List Int) (ho : Tree.ok ps = true) (hFp : ¬ F Bp) (hFa : ∀ {W W' : World}, Zr W a len ps → Sans F W W' → Zr W' a len ps) (v : Nat) (hv : v ≤ len) (w : World)
    (hBv : w.cell? ⟨Bv, 0, none⟩ = some (.int .i64 (v : Nat))) (hBp : w.cell? ⟨Bp, 0, none⟩ = some (.slice a len c)) (hZ : Zr w a len ps) :
    SeqStopsK Fence.wide n Try.prog 38 #[.pointer (some ⟨Bv, 0, none⟩), .pointer (some ⟨Bp, 0, none⟩)] (fun x : Int => #[Value.int .i64 x]) (Sans F) (fun ys => ys = Tree.ups ps 6 v) (fun pre => pre <+: Tree.ups ps 6 v) (Tree.ups ps 6 v).length w := fun l J Jx W hW _ _ hY h0 =>
  anc1_in n hn l Bv Bp F a len c ps ho hFp hFa v hv J Jx hY W ((hW.cell (p := ⟨Bv, 0, none⟩) (cell_lt hBv)).trans hBv) ((hW.cell (p := ⟨Bp, 0, none⟩) (cell_lt hBp)).trans hBp) (hZ.below hW) h0
end Go.Proofs.Ytipdcpekepiphaa
