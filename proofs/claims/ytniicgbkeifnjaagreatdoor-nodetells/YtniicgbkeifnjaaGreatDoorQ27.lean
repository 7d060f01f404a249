/-
  Contracts and plain facts that the walks lean on (PlanDup, PlanDif). Conditions: none but those that each states.
-/
import Derived.Test.YtniicgbkeifnjaaGreatDoorQ26
import Derived.Lib.EndianMore
namespace Go.Proofs.YtniicgbkeifnjaaGreatDoor
open Go.ChangeShapes Go.WideShapes Go.ChangeAt Go.RowKit
set_option linter.unusedVariables false
set_option maxRecDepth 100000
theorem neE (w : World) (a b c d : Int) : (binOp .neq 43 (.agg #[.int .i64 a, .int .i64 b]) (.agg #[.int .i64 c, .int .i64 d])).run Tryz.prog w = .ok (.bool (!(a == c && b == d))) w := by
  have u3 := Tryz.underlying3
  have a3 := Tryz.isAgg3
  have z3 := Tryz.sizeOf3
  have hS : Tryz.prog.underlying 43 = some (.struct (Tryz.prog.fieldsOf 43)) := by kernel_rfl
  have hp : Tryz.prog.stoodInHeld 43 = false := by kernel_rfl
  rw [run_neq_struct, show (10000 : Nat) = 9999 + 1 from rfl, run_equalIn_agg w 9999 43 _ _ hS hp]
  simp only [Program.fieldsOf, Tryz.underlying43]
  go_simp
  by_cases h1 : a = c <;> by_cases h2 : b = d <;> simp [h1, h2]
namespace Plan
def Adj (l : List (Int × Int)) : Prop := ∀ k, k + 1 < l.length → edge l (k + 1) ≠ edge l k
end Plan
def Nums (w : World) (base g n cap : Nat) : Prop := ∃ xs, w.ownsRow base 43 2 (.slice (some ⟨g, 0, none⟩) n cap) n xs ∧ ∀ x ∈ xs, ∃ z : Int, x = .int .i64 z
theorem Nums.at {w : World} {base g n cap : Nat} (h : Nums w base g n cap) {i : Nat} (hi : i < n * 2) : ∃ z : Int, w.cell? ⟨g, i, none⟩ = some (.int .i64 z) ∧ w.frozen? ⟨g, i, none⟩ = false := by
  obtain ⟨xs, h1, h2⟩ := h
  have hl := h1.1
  have hc := h1.cellAt i (by omega)
  rw [List.getElem?_eq_getElem (show i < xs.length by omega)] at hc
  obtain ⟨z, hz⟩ := h2 _ (List.getElem_mem (show i < xs.length by omega))
  exact ⟨z, by rw [hc, hz], h1.frozenAt i⟩
theorem Nums.set {w : World} {base g n cap : Nat} (h : Nums w base g n cap) (i : Nat) (z : Int) : Nums (w.setCell ⟨g, i, none⟩ (.int .i64 z)) base g n cap := by
  obtain ⟨xs, h1, h2⟩ := h
  refine ⟨_, (h1.stored i _).1, fun x hx => ?_⟩
  rcases List.mem_or_eq_of_mem_set hx with e | e
  · exact h2 x e
  · exact ⟨z, e⟩
theorem run_clear_any {P : Program} (w : World) (t e ty : TypeId) (z : Value) (ht : P.underlying t = some (.slice e)) (hv : ∀ w, (zeroValue e).run P w = .ok z w) (b o n c m : Nat) (hn : 0 < n) (hm : (Builtin.zeroCells z.cells n).toList.length = m)
    (h1 : ∀ x ∈ (Builtin.zeroCells z.cells n).toList, x.oneCell' = true) (hc : ∀ j, j < m → (w.cell? ⟨b, o + j, none⟩).isSome = true) (hf : ∀ j, j < m → w.frozen? ⟨b, o + j, none⟩ = false) :
    (Builtin.clear_ #[t] ty #[.slice (some ⟨b, o, none⟩) n c]).run P w = .ok (.tuple #[]) (w.setCells b o (Builtin.zeroCells z.cells n).toList) := by
  have hst := run_storeCells_cells (P := P) b o (Builtin.zeroCells z.cells n).toList 0 w (by rw [hm]; simpa using hc) (by rw [hm]; simpa using hf) h1
  simp only [Nat.add_zero] at hst
  obtain ⟨k, rfl⟩ : ∃ k, n = k + 1 := ⟨n - 1, by omega⟩
  simp [Builtin.clear_, run_underlying ht, hv, hst]
theorem zeros_len (n : Nat) : (Builtin.zeroCells (Value.agg #[.int .i64 0, .int .i64 0]).cells n).toList.length = n * 2 := by
  simp [Builtin.zeroCells, Value.cells]
theorem zeros_one (n : Nat) : ∀ x ∈ (Builtin.zeroCells (Value.agg #[.int .i64 0, .int .i64 0]).cells n).toList, x.oneCell' = true := by
  intro x hx
  simp [Builtin.zeroCells, Value.cells] at hx
  obtain ⟨a, _, rfl⟩ := hx
  rcases Nat.mod_two_eq_zero_or_one a with e | e <;> rw [e] <;> rfl
theorem set_below {w wr : World} {base g i : Nat} {v : Value} (h : Below base w wr) (hb : base ≤ w.heap.size) (hg : base ≤ g) : Below base w (wr.setCell ⟨g, i, none⟩ v) :=
  have s := Sans.of_set (F := fun j => j = g) wr ⟨g, i, none⟩ v rfl
  ⟨s.os.trans h.os, s.tape.trans h.tape, s.output.trans h.output, Nat.le_trans h.size s.size, fun j hj => (s.block j (by have := h.size; omega) (by omega)).trans (h.block j hj)⟩
set_option maxHeartbeats 4000000 in
set_option maxRecDepth 100000 in
theorem compactE_own {w : World} {base : Nat} {v : Value} {l : List (Int × Int)} (h : w.ownsRow base 43 2 v l.length (pcells l)) (hl : l.length ≤ 8796093022208) :
    Calls Tryz.prog 225 #[v] w fun e w' => ∃ a m cap, e = .returned (.slice a m cap) ∧ (m = l.length ↔ Plan.Adj l) ∧ Below base w w' := by
  obtain ⟨a, cap, rfl, hz, hnc, hcm, _, hown⟩ := pr_of_owns h
  rcases hown with ⟨rfl, rfl⟩ | ⟨g, rfl, hbg, hgl⟩
  · clear h hz
    have HA : Hid (Plan.Adj []) := fun k hk => by simp at hk
    go_enter Tryz.func225, Tryz.ntmps225
    go_wp2_with fail
    go_ret
    refine ⟨none, 0, ⟨_, rfl⟩, ⟨fun _ => HA.out, fun _ => rfl⟩, Below.refl _ _⟩
  · have HP : Hid (Pr w (some ⟨g, 0, none⟩) l.length l) := hz
    have HNu : Hid (Nums w base g l.length cap) := ⟨_, h, fun x hx => by
      unfold pcells at hx
      obtain ⟨y, _, hy⟩ := List.mem_flatMap.1 hx
      simp only [List.mem_cons, List.not_mem_nil, or_false] at hy
      rcases hy with rfl | rfl <;> exact ⟨_, rfl⟩⟩
    obtain ⟨n, hn⟩ : ∃ n, l.length = n := ⟨_, rfl⟩
    rw [hn] at HP HNu hl hnc ⊢
    have HL : Hid (l.length = n) := hn
    clear h hz hn
    by_cases h2 : n < 2
    · have HA : Hid (Plan.Adj l) := fun k hk => by have := HL.out; omega
      have h2' : (n : Int) < 2 := by omega
      go_enter Tryz.func225, Tryz.ntmps225
      go_wp2_with fail
      go_ret
      exact ⟨_, _, _, rfl, ⟨fun _ => HA.out, fun _ => rfl⟩, Below.refl _ _⟩
    · go_enter Tryz.func225, Tryz.ntmps225
      go_wp2_with fail
      go_loopw [3, 4, 5] (fun i _ _ wr => ∃ j : Nat, j + 1 ≤ n ∧ i = .int .i64 (j + 1 : Nat) ∧ (∀ k, k + 1 < j + 1 → Plan.edge l (k + 1) ≠ Plan.edge l k) ∧ Below w.heap.size w wr) (fun i _ _ _ => n - (intOf i).toNat)
      case atStart => exact ⟨0, by omega, rfl, fun k hk => by omega, Below.refl _ _⟩
      case round =>
        obtain ⟨j, hj, rfl, hA, hB⟩ := hrel
        have HB : Hid (Below w.heap.size w wr) := hB
        clear hB
        have HA : Hid (∀ k, k + 1 < j + 1 → Plan.edge l (k + 1) ≠ Plan.edge l k) := hA
        clear hA
        by_cases hjn : j + 1 < n
        · have hP := HP.out.below HB.out
          obtain ⟨b1, o1, e1, cA1, cB1⟩ := hP.at hjn
          obtain ⟨b0, o0, e0, cA0, cB0⟩ := hP.at (show j < n by omega)
          simp only [Option.some.injEq, Addr.mk.injEq, and_true] at e1 e0
          rw [← e1.1, ← e1.2, Nat.zero_add] at cA1 cB1
          rw [← e0.1, ← e0.2, Nat.zero_add] at cA0 cB0
          clear e1 e0
          obtain ⟨⟨A1, B1⟩, hy1⟩ : ∃ y, l.getD (j + 1) (0, 0) = y := ⟨_, rfl⟩
          obtain ⟨⟨A0, B0⟩, hy0⟩ : ∃ y, l.getD j (0, 0) = y := ⟨_, rfl⟩
          have HY : Hid (Plan.edge l (j + 1) = (A1, B1) ∧ Plan.edge l j = (A0, B0)) := ⟨hy1, hy0⟩
          rw [hy1] at cA1 cB1
          rw [hy0] at cA0 cB0
          simp only at cA1 cB1 cA0 cB0
          clear hy1 hy0 hP
          have heq := fun w => eqE w A1 B1 A0 B0
          have hgd := gdE
          by_cases hEq : A1 = A0 ∧ B1 = B0
          · have hb : (A1 == A0 && B1 == B0) = true := by simp [hEq.1, hEq.2]
            rw [hb] at heq
            have HDup : Hid (¬ Plan.Adj l) := fun h => h j (by have := HL.out; omega) (by rw [HY.out.1, HY.out.2, hEq.1, hEq.2])
            obtain ⟨m, hm⟩ : ∃ m, n - (j + 1) = m := ⟨_, rfl⟩
            have HM : Hid (n = j + 1 + m ∧ 1 ≤ m) := by constructor <;> omega
            have hkc : (j : Int) + 1 ≤ cap := by omega
            clear hEq hb
            go_wp2_with fail
            go_region
            go_wp2_with fail
            clear heq cA1 cB1 cA0 cB0 hm
            have HN0 : Hid (Nums wr.drew base g n cap) := by
              obtain ⟨xs, h1, h2⟩ := HNu.out
              exact ⟨xs, owns_below h1 HB.out.drew, h2⟩
            have HB0 : Hid (Below base w wr.drew) := HB.out.drew.mono (by omega)
            generalize wr.drew = W3 at HN0 HB0 ⊢
            go_loopw [3, 5] (fun i2 k2 ww => ∃ kk t : Nat, i2 = .int .i64 kk ∧ k2 = .int .i64 (t + 1 : Nat) ∧ t + 1 ≤ m ∧ j + 1 ≤ kk ∧ kk ≤ j + 1 + t ∧ Nums ww base g n cap ∧ Below base w ww) (fun _ k2 _ => m - (intOf k2).toNat)
            case atStart => exact ⟨j + 1, 0, rfl, rfl, by have := HM.out; omega, Nat.le_refl _, by omega, HN0.out, HB0.out⟩
            case round =>
              obtain ⟨kk, t, rfl, rfl, ht, hk1, hk2, hNu, hBw⟩ := hrel
              have HN1 : Hid (Nums wr base g n cap) := hNu
              have HB1 : Hid (Below base w wr) := hBw
              clear hNu hBw
              have hkkn : kk < n := by have := HM.out; omega
              have htb : t ≤ 8796093022208 := by have := HM.out; omega
              have hmb : m ≤ 8796093022208 := by have := HM.out; omega
              by_cases htm : t + 1 < m
              · obtain ⟨A1, cA1, _⟩ := HN1.out.at (i := (j + 1) * 2 + (t + 1) * 2) (by have := HM.out; omega)
                obtain ⟨B1, cB1, _⟩ := HN1.out.at (i := (j + 1) * 2 + (t + 1) * 2 + 1) (by have := HM.out; omega)
                obtain ⟨A0, cA0, _⟩ := HN1.out.at (i := (j + 1) * 2 + t * 2) (by have := HM.out; omega)
                obtain ⟨B0, cB0, _⟩ := HN1.out.at (i := (j + 1) * 2 + t * 2 + 1) (by have := HM.out; omega)
                obtain ⟨x0, d0, f0⟩ := HN1.out.at (i := kk * 2) (by omega)
                obtain ⟨x1, d1, f1⟩ := HN1.out.at (i := kk * 2 + 1) (by omega)
                have hne := fun w => neE w A1 B1 A0 B0
                have hgd := gdE
                cases hb : (A1 == A0 && B1 == B0) with
                | true =>
                  rw [hb] at hne
                  clear hb d0 d1 f0 f1
                  go_wp2_with fail
                  go_region
                  go_wp2_with fail
                  go_roundw
                  case rel =>
                    have R1 : Nums wr.drew base g n cap := HN1.out
                    first | exact ⟨kk, t + 1, rfl, by go_num, by omega, hk1, by omega, R1, HB1.out.drew⟩ | ((repeat apply Exists.intro); exact ⟨⟨kk, t + 1, rfl, by go_num, by omega, hk1, by omega, R1, HB1.out.drew⟩, rfl⟩)
                  case measure => simp [intOf]; omega
                | false =>
                  rw [hb] at hne
                  clear hb
                  have hkn' : (kk : Int) < n := by omega
                  go_wp2_with fail
                  go_region
                  go_wp2_with fail
                  go_roundw
                  case rel =>
                    have R1 : Nums ((wr.setCell ⟨g, kk * 2, none⟩ (.int .i64 A1)).setCell ⟨g, kk * 2 + 1, none⟩ (.int .i64 B1)).drew base g n cap := (HN1.out.set _ _).set _ _
                    have R2 : Below base w ((wr.setCell ⟨g, kk * 2, none⟩ (.int .i64 A1)).setCell ⟨g, kk * 2 + 1, none⟩ (.int .i64 B1)).drew := (set_below (set_below HB1.out (by omega) hbg) (by omega) hbg).drew
                    first | exact ⟨kk + 1, t + 1, by go_num, by go_num, by omega, by omega, by omega, R1, R2⟩ | ((repeat apply Exists.intro); exact ⟨⟨kk + 1, t + 1, by go_num, by go_num, by omega, by omega, by omega, R1, R2⟩, rfl⟩)
                  case measure => simp [intOf]; omega
              · have hcl : ∀ ty, (Builtin.clear_ #[26] ty #[.slice (some ⟨g, kk * 2, none⟩) (n - kk) (cap - kk)]).run Tryz.prog wr = .ok (.tuple #[]) (wr.setCells g (kk * 2) (Builtin.zeroCells (Value.agg #[.int .i64 0, .int .i64 0]).cells (n - kk)).toList) :=
                  fun ty => run_clear_any wr 26 43 ty (.agg #[.int .i64 0, .int .i64 0]) Tryz.underlying26 Tryz.zeroValue43 g (kk * 2) (n - kk) (cap - kk) ((n - kk) * 2) (by omega) (zeros_len _) (zeros_one _) (fun i hi => by
                    obtain ⟨z, hz, _⟩ := HN1.out.at (i := kk * 2 + i) (by omega)
                    rw [hz]; rfl) (fun i hi => by
                    obtain ⟨z, _, hf⟩ := HN1.out.at (i := kk * 2 + i) (by omega)
                    exact hf)
                have HBc : Hid (Below base w (wr.setCells g (kk * 2) (Builtin.zeroCells (Value.agg #[.int .i64 0, .int .i64 0]).cells (n - kk)).toList)) := HB1.out.trans (Lib.below_setCells_w hbg _ _ _)
                generalize wr.setCells g (kk * 2) _ = Wc at hcl HBc
                have hkn' : (kk : Int) ≤ n := by omega
                have hkc' : (kk : Int) ≤ cap := by omega
                go_wp2_with fail
                go_ret
                exact ⟨_, _, _, rfl, ⟨fun h => by omega, fun h => absurd h HDup.out⟩, HBc.out⟩
          · have hb : (A1 == A0 && B1 == B0) = false := by
              rw [Bool.and_eq_false_iff, beq_eq_false_iff_ne, beq_eq_false_iff_ne]
              by_cases e : A1 = A0
              · exact .inr (fun e2 => hEq ⟨e, e2⟩)
              · exact .inl e
            rw [hb] at heq
            have HNe : Hid (Plan.edge l (j + 1) ≠ Plan.edge l j) := by
              rw [HY.out.1, HY.out.2]
              intro e
              simp only [Prod.mk.injEq] at e
              exact hEq e
            clear hEq hb
            go_wp2_with fail
            go_region
            go_wp2_with fail
            go_roundw
            case rel =>
              have R1 : ∀ k, k + 1 < j + 1 + 1 → Plan.edge l (k + 1) ≠ Plan.edge l k := fun k hk => by
                by_cases e : k = j
                · rw [e]; exact HNe.out
                · exact HA.out k (by omega)
              first | exact ⟨j + 1, by omega, by go_num, R1, HB.out.drew⟩ | ((repeat apply Exists.intro); exact ⟨⟨j + 1, by omega, by go_num, R1, HB.out.drew⟩, rfl⟩)
            case measure => simp [intOf]; omega
        · have HAd : Hid (Plan.Adj l) := fun k hk => HA.out k (by have := HL.out; omega)
          have HQ : Hid (j + 1 = n) := by show _ = _; omega
          go_wp2_with fail
          go_ret
          exact ⟨_, _, _, rfl, ⟨fun _ => HAd.out, fun _ => rfl⟩, HB.out.mono (by omega)⟩
end Go.Proofs.YtniicgbkeifnjaaGreatDoor
namespace Go.Proofs.YtniicgbkeifnjaaGreatDoor
open Go.ChangeShapes Go.WideShapes Go.ChangeAt Go.RowKit Go.Sort
set_option linter.unusedVariables false
set_option maxRecDepth 100000
namespace Plan
theorem lt2 (x y : Int × Int) : ltOf cmp2 x y = decide (x.1 < y.1 ∨ x.1 = y.1 ∧ x.2 < y.2) := by
  unfold ltOf
  exact decide_eq_decide.2 (cmp2_neg x y)
theorem swo2 : SWO (ltOf cmp2) where
  irrefl x := by rw [lt2, decide_eq_false_iff_not]; omega
  trans x y z h1 h2 := by rw [lt2, decide_eq_true_eq] at *; omega
  ntrans x y z h1 h2 := by rw [lt2, decide_eq_false_iff_not] at *; omega
theorem adj_nodup {l : List (Int × Int)} (h : ∀ i j, i < j → j < l.length → ltOf cmp2 (edge l j) (edge l i) = false) : Adj l ↔ l.Nodup := by
  constructor
  · intro ha
    refine List.pairwise_iff_getElem.2 fun i j hi hj hij e => ?_
    have e1 : edge l i = edge l j := by
      unfold edge
      rw [List.getD_eq_getElem?_getD, List.getElem?_eq_getElem hi, List.getD_eq_getElem?_getD, List.getElem?_eq_getElem hj]
      exact e
    have h1 := ha i (by omega)
    by_cases e2 : j = i + 1
    · subst e2
      exact h1 e1.symm
    · have h2 := h (i + 1) j (by omega) hj
      have h3 := h i (i + 1) (by omega) (by omega)
      rw [← e1] at h2
      rw [lt2, decide_eq_false_iff_not] at h2 h3
      refine h1 (Prod.ext ?_ ?_) <;> omega
  · intro hn k hk e
    have := List.pairwise_iff_getElem.1 hn k (k + 1) (by omega) hk (by omega)
    unfold edge at e
    rw [List.getD_eq_getElem?_getD, List.getElem?_eq_getElem hk, List.getD_eq_getElem?_getD, List.getElem?_eq_getElem (show k < l.length by omega)] at e
    exact this e.symm
end Plan
def encE (x : Int × Int) : List Value := [.int .i64 x.1, .int .i64 x.2]
theorem flat_pcells (l : List (Int × Int)) : (flatK encE 2 l.toArray).toList = pcells l := by
  apply List.ext_getElem?
  intro t
  by_cases ht : t < l.length * 2
  · have h1 := get_flatK encE 2 l.toArray t (by simpa using ht)
    rw [getElem!_pos _ t (by simpa using ht)] at h1
    rw [Array.getElem?_toList, Array.getElem?_eq_getElem (by simpa using ht), h1]
    have hp := pcells_at l (t / 2) (by omega)
    have hg : l.toArray[t / 2]! = l.getD (t / 2) (0, 0) := by
      rw [getElem!_pos l.toArray (t / 2) (by simp; omega), List.getD_eq_getElem?_getD, List.getElem?_eq_getElem (by omega)]
      simp
    rw [hg]
    rcases Nat.mod_two_eq_zero_or_one t with e0 | e0
    · have ej : t = t / 2 * 2 := by omega
      rw [e0]
      have h3 := hp.1
      rw [← ej] at h3
      rw [h3]
      rfl
    · have ej : t = t / 2 * 2 + 1 := by omega
      rw [e0]
      have h3 := hp.2
      rw [← ej] at h3
      rw [h3]
      rfl
  · rw [List.getElem?_eq_none (by simp; omega), List.getElem?_eq_none (by rw [pcells_len]; omega)]
theorem heap_sortedE {w : World} {g n : Nat} {os : Array Obj} {cur : Array Value} {e : TypeId} {fr : Nat × Nat} (d : Array Value) (hb : w.heap[g]? = some (.cells cur e fr)) :
    (grow (putRow id (Sort.ahead w n) g 0 d) os).heap[g]? = some (.cells (putCells id 0 d cur) e fr) := by
  have hg : g < w.heap.size := (Array.getElem?_eq_some_iff.1 hb).1
  rw [heap_grow_old _ _ (by simpa using hg)]
  simp [putRow, mapBlock, Sort.ahead, Array.getElem?_modify, hb, onCells]
theorem grown_sortedE {w : World} {g n : Nat} {os : Array Obj} (d : Array Value) : w.grownBy (grow (putRow id (Sort.ahead w n) g 0 d) os) (some g) := by
  refine ⟨rfl, rfl, rfl, by simp, fun k hk hne => ?_⟩
  rw [heap_grow_old _ _ (by simpa using hk)]
  have : g ≠ k := fun e => hne (by rw [e])
  simp [putRow, mapBlock, Sort.ahead, Array.getElem?_modify, this]
theorem take_putE (cur d : Array Value) (h : d.size ≤ cur.size) : (putCells id 0 d cur).toList.take d.size = d.toList := by
  apply List.ext_getElem?
  intro j
  by_cases hj : j < d.size
  · rw [List.getElem?_take_of_lt hj, Array.getElem?_toList]
    simp [putCells, hj, show j < cur.size by omega]
  · rw [List.getElem?_take_eq_none (by omega), List.getElem?_eq_none (by simp; omega)]
theorem holdsE {w : World} {base g cap n : Nat} {l : List (Int × Int)} (h : w.ownsRow base 43 2 (.slice (some ⟨g, 0, none⟩) n cap) n (pcells l)) (hn : l.length = n) : HoldsK encE 2 w g 0 l.toArray := by
  intro j hj
  have hj' : j < l.length * 2 := by simpa using hj
  refine ⟨?_, h.frozenAt _⟩
  rw [Nat.zero_add, h.cellAt j (by omega), ← flat_pcells, Array.getElem?_toList, Array.getElem?_eq_getElem hj, getElem!_pos _ j hj]
  rfl
set_option maxHeartbeats 2000000 in
theorem insert_none (p : Option Addr) (cap : Nat) (fv : Value) (w : World) :
    Calls Tryz.prog 255 #[.slice p 0 cap, .int .i64 0, .int .i64 0, fv] w fun e w' => e = .returned (.tuple #[]) ∧ w' = w := by
  go_enter Tryz.func255, Tryz.ntmps255
  go_wp2_with fail
  refine wp_loop_rounds 1 ?_
  rw [rounds_succ]
  go_wp2_with fail
  go_end0
  exact ⟨rfl, rfl⟩
set_option maxHeartbeats 2000000 in
set_option maxRecDepth 100000 in
theorem pdq_none (p : Option Addr) (cap : Nat) (lim : Int) (fv : Value) (w : World) :
    Calls Tryz.prog 247 #[.slice p 0 cap, .int .i64 0, .int .i64 0, .int .i64 lim, fv] w fun e w' => e = .returned (.tuple #[]) ∧ w' = w := by
  go_enter Tryz.func247, Tryz.ntmps247
  go_wp2_with fail
  refine wp_loop_rounds 1 ?_
  rw [rounds_succ]
  go_wp2_with (go_at_call 255; refine (insert_none _ _ _ _).mono ?_; rintro e w' ⟨rfl, rfl⟩)
  (try simp only [Exit.inBlock, Exit.then])
  refine bodyPost_ret (results_none rfl _ _ _) rfl ?_
  exact ⟨rfl, rfl⟩
theorem sortE_none (p : Option Addr) (cap : Nat) (fv : Value) (w : World) :
    Calls Tryz.prog 221 #[.slice p 0 cap, fv] w fun e w' => e = .returned (.tuple #[]) ∧ w' = w := by
  have hl : ∀ W, Calls Tryz.prog 204 #[.int .u64 0] W fun e w' => e = .returned (.int .i64 (Lib.bitLen 0 : Nat)) ∧ w' = W := fun W => Any.bits_Len Tryz.lays125 0 W (by omega) (by omega)
  go_enter Tryz.func221, Tryz.ntmps221
  go_wp2_with (first | (go_at_call 204; refine (hl _).mono ?_; rintro e w' ⟨rfl, rfl⟩) | (go_at_call 247; refine (pdq_none _ _ _ _ _).mono ?_; rintro e w' ⟨rfl, rfl⟩))
  go_end0
  exact ⟨rfl, rfl⟩
theorem sortE_own {w : World} {base : Nat} {v : Value} {l : List (Int × Int)} (h : w.ownsRow base 43 2 v l.length (pcells l)) (hl : l.length ≤ 8796093022208) :
    Calls Tryz.prog 221 #[v, .func (Fn.func 222) #[] #[]] w fun e w' => e = .returned (.tuple #[]) ∧ ∃ l', l'.Perm l ∧ (∀ i j, i < j → j < l'.length → ltOf Plan.cmp2 (Plan.edge l' j) (Plan.edge l' i) = false) ∧ w'.ownsRow base 43 2 v l'.length (pcells l') ∧ Below base w w' := by
  rcases h.2 with ⟨hv, h0⟩ | ⟨g, cap, cur, hv, hb, hg, hnc, hcm, hcs, htake⟩
  · subst hv
    have : l = [] := List.length_eq_zero_iff.1 h0
    subst this
    refine (sortE_none none 0 _ w).mono ?_
    rintro e w' ⟨rfl, rfl⟩
    exact ⟨rfl, [], List.Perm.refl _, fun i j h1 h2 => by simp at h2, h, Below.refl _ _⟩
  · subst hv
    have hlt : g < w.heap.size := by
      rcases Nat.lt_or_ge g w.heap.size with h' | h'
      · exact h'
      · simp [Array.getElem?_eq_none h'] at hg
    have eg : ∀ args w, (callFunc 222 args).run Tryz.prog w = .ok (.enter 222 args) w := enters_of Tryz.func222 (by kernel_rfl) rfl
    have hcmp : CmpLays Tryz.prog 222 #[] encE 2 Plan.cmp2 g 0 l.toArray.size w := fun m os dk _ x y => cmpE_any x y _
    have hS := AnyQ.slices_SortFunc Tryz.laysE 2 Tryz.isAgg43 Tryz.sizeOf43 encE (fun _ => rfl) (fun x v hv => by simp [encE] at hv; rcases hv with rfl | rfl <;> rfl) Plan.cmp2 Plan.swo2 222 #[] g 0 cap l.toArray w eg hcmp (holdsE h rfl) hlt (by simp; omega)
    change Calls Tryz.prog 221 _ _ _ at hS
    have esz : l.toArray.size = l.length := by simp
    rw [esz] at hS
    refine hS.mono ?_
    rintro e w' ⟨rfl, d', n, os, ⟨hs, _, hp⟩, hso, rfl⟩
    rw [esz] at hs
    have hp' : d'.toList.Perm l := by
      rw [Array.extract_eq_self_of_le (by omega), Array.extract_eq_self_of_le (by simp)] at hp
      simpa using hp
    refine ⟨rfl, d'.toList, hp', fun i j h1 h2 => ?_, ?_, ?_⟩
    · have h2' : j < d'.size := by simpa using h2
      have := hso i j (Nat.zero_le _) h1 (by omega)
      unfold Plan.edge
      rw [getElem!_pos d' j h2', getElem!_pos d' i (by omega)] at this
      rw [List.getD_eq_getElem?_getD, List.getElem?_eq_getElem h2, List.getD_eq_getElem?_getD, List.getElem?_eq_getElem (show i < d'.toList.length by simp; omega)]
      simpa using this
    · have e1 : d'.toList.length = l.length := by simpa using hs
      rw [e1]
      have hfl : (flatK encE 2 d').toList = pcells d'.toList := by have := flat_pcells d'.toList; simpa using this
      refine ⟨by rw [pcells_len, e1], .inr ⟨g, cap, _, rfl, hb, heap_sortedE _ hg, hnc, hcm, by simp [putCells, hcs], ?_⟩⟩
      rw [← hfl]
      have h3 := take_putE cur (flatK encE 2 d') (by rw [size_flatK, hs, hcs]; omega)
      rw [size_flatK, hs] at h3
      exact h3
    · exact (Below.refl base w).grown (grown_sortedE _) (by omega) (fun k hk => by cases hk; exact hb)
end Go.Proofs.YtniicgbkeifnjaaGreatDoor
