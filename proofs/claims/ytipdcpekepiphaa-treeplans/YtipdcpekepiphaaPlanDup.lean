/-
  slices.Compact at a row of edges of the call's own: as many are left as there were just if no two side by side are the same. Conditions: none.
-/
import Derived.Test.YtipdcpekepiphaaPlanC
import Derived.Lib.EndianMore
namespace Go.Proofs.Ytipdcpekepiphaa
open Go.ChangeShapes Go.WideShapes Go.ChangeAt Go.RowKit
set_option linter.unusedVariables false

theorem neE (w : World) (a b c d : Int) : (binOp .neq 59 (.agg #[.int .i64 a, .int .i64 b]) (.agg #[.int .i64 c, .int .i64 d])).run Try.prog w = .ok (.bool (!(a == c && b == d))) w := by
  have u3 := Try.underlying3
  have a3 := Try.isAgg3
  have z3 := Try.sizeOf3
  have hS : Try.prog.underlying 59 = some (.struct (Try.prog.fieldsOf 59)) := by kernel_rfl
  have hp : Try.prog.stoodInHeld 59 = false := by kernel_rfl
  rw [run_neq_struct, show (10000 : Nat) = 9999 + 1 from rfl, run_equalIn_agg w 9999 59 _ _ hS hp]
  simp only [Program.fieldsOf, Try.underlying59]
  go_simp
  by_cases h1 : a = c <;> by_cases h2 : b = d <;> simp [h1, h2]
namespace Plan
/-- no two side by side are the same -/
def Adj (l : List (Int × Int)) : Prop := ∀ k, k + 1 < l.length → edge l (k + 1) ≠ edge l k
end Plan
/-- a row of edges of the call's own, whatever its numbers are -/
def Nums (w : World) (base g n cap : Nat) : Prop := ∃ xs, w.ownsRow base 59 2 (.slice (some ⟨g, 0, none⟩) n cap) n xs ∧ ∀ x ∈ xs, ∃ z : Int, x = .int .i64 z
theorem Nums.at {w : World} {base g n cap : Nat} (h : Nums w base g n cap) {i : Nat} (hi : i < n * 2) : ∃ z : Int, w.cell? ⟨g, i, none⟩ = some (.int .i64 z) ∧ w.frozen? ⟨g, i, none⟩ = false := by
  obtain ⟨xs, h1, h2⟩ := h
  have hl := h1.1
  have hc := h1.cellAt i (by omega)
  rw [List.getElem?_eq_getElem (show i < xs.length by omega)] at hc
  obtain ⟨z, hz⟩ := h2 _ (List.getElem_mem (show i < xs.length by omega))
  exact ⟨z, by rw [hc, hz], h1.frozenAt i⟩
theorem Nums.set {w : World} {base g n cap : Nat} (h : Nums w base g n cap) (i : Nat) (z : Int) : Nums (w.setCell ⟨g, i, none⟩ (.int .i64 z)) base g n cap := by
  obtain ⟨xs, h1, h2⟩ := h
  refine ⟨_, (h1.stored i _).1, fun x hx => ?_⟩
  rcases List.mem_or_eq_of_mem_set hx with e | e
  · exact h2 x e
  · exact ⟨z, e⟩
theorem Nums.low {w : World} {base g n cap : Nat} (h : Nums w base g n cap) (hn : 0 < n) : base ≤ g ∧ n ≤ cap ∧ cap ≤ maxLen := by
  obtain ⟨xs, h1, h2⟩ := h
  rcases h1.2 with ⟨hv, h0⟩ | ⟨g', cap', cur, hv, hb, hg, hnc, hcm, hcs, htake⟩
  · omega
  · simp only [Value.slice.injEq, Option.some.injEq, Addr.mk.injEq, true_and, and_true] at hv
    obtain ⟨rfl, rfl⟩ := hv
    exact ⟨hb, hnc, hcm⟩
theorem run_clear_any {P : Program} (w : World) (t e ty : TypeId) (z : Value) (ht : P.underlying t = some (.slice e)) (hv : ∀ w, (zeroValue e).run P w = .ok z w) (b o n c m : Nat) (hn : 0 < n) (hm : (Builtin.zeroCells z.cells n).toList.length = m)
    (h1 : ∀ x ∈ (Builtin.zeroCells z.cells n).toList, x.oneCell' = true) (hc : ∀ j, j < m → (w.cell? ⟨b, o + j, none⟩).isSome = true) (hf : ∀ j, j < m → w.frozen? ⟨b, o + j, none⟩ = false) :
    (Builtin.clear_ #[t] ty #[.slice (some ⟨b, o, none⟩) n c]).run P w = .ok (.tuple #[]) (w.setCells b o (Builtin.zeroCells z.cells n).toList) := by
  have hst := run_storeCells_cells (P := P) b o (Builtin.zeroCells z.cells n).toList 0 w (by rw [hm]; simpa using hc) (by rw [hm]; simpa using hf) h1
  simp only [Nat.add_zero] at hst
  obtain ⟨k, rfl⟩ : ∃ k, n = k + 1 := ⟨n - 1, by omega⟩
  simp [Builtin.clear_, run_underlying ht, hv, hst]
theorem zeros_len (n : Nat) : (Builtin.zeroCells (Value.agg #[.int .i64 0, .int .i64 0]).cells n).toList.length = n * 2 := by
  simp [Builtin.zeroCells, Value.cells]
theorem zeros_one (n : Nat) : ∀ x ∈ (Builtin.zeroCells (Value.agg #[.int .i64 0, .int .i64 0]).cells n).toList, x.oneCell' = true := by
  intro x hx
  simp [Builtin.zeroCells, Value.cells] at hx
  obtain ⟨a, _, rfl⟩ := hx
  rcases Nat.mod_two_eq_zero_or_one a with e | e <;> rw [e] <;> rfl
theorem set_below {w wr : World} {base g i : Nat} {v : Value} (h : Below base w wr) (hb : base ≤ w.heap.size) (hg : base ≤ g) : Below base w (wr.setCell ⟨g, i, none⟩ v) :=
  have s := Sans.of_set (F := fun j => j = g) wr ⟨g, i, none⟩ v rfl
  ⟨s.os.trans h.os, s.tape.trans h.tape, s.output.trans h.output, Nat.le_trans h.size s.size, fun j hj => (s.block j (by have := h.size; omega) (by omega)).trans (h.block j hj)⟩
set_option maxHeartbeats 4000000 in
set_option maxRecDepth 100000 in
theorem compactE_own {w : World} {base : Nat} {v : Value} {l : List (Int × Int)} (h : w.ownsRow base 59 2 v l.length (pcells l)) (hl : l.length ≤ 8796093022208) :
    Calls Try.prog 53 #[v] w fun e w' => ∃ a m cap, e = .returned (.slice a m cap) ∧ (m = l.length ↔ Plan.Adj l) ∧ Below base w w' := by
  obtain ⟨a, cap, rfl, hz, hnc, hcm, _, hown⟩ := pr_of_owns h
  rcases hown with ⟨rfl, rfl⟩ | ⟨g, rfl, hbg, hgl⟩
  · clear h hz
    have HA : Hid (Plan.Adj []) := fun k hk => by simp at hk
    go_enter Try.func53, Try.ntmps53
    go_wp2_with fail
    go_ret
    refine ⟨none, 0, ⟨_, rfl⟩, ⟨fun _ => HA.out, fun _ => rfl⟩, Below.refl _ _⟩
  · have HP : Hid (Pr w (some ⟨g, 0, none⟩) l.length l) := hz
    have HNu : Hid (Nums w base g l.length cap) := ⟨_, h, fun x hx => by
      unfold pcells at hx
      obtain ⟨y, _, hy⟩ := List.mem_flatMap.1 hx
      simp only [List.mem_cons, List.not_mem_nil, or_false] at hy
      rcases hy with rfl | rfl <;> exact ⟨_, rfl⟩⟩
    obtain ⟨n, hn⟩ : ∃ n, l.length = n := ⟨_, rfl⟩
    rw [hn] at HP HNu hl hnc ⊢
    have HL : Hid (l.length = n) := hn
    clear h hz hn
    by_cases h2 : n < 2
    · have HA : Hid (Plan.Adj l) := fun k hk => by have := HL.out; omega
      have h2' : (n : Int) < 2 := by omega
      go_enter Try.func53, Try.ntmps53
      go_wp2_with fail
      go_ret
      exact ⟨_, _, _, rfl, ⟨fun _ => HA.out, fun _ => rfl⟩, Below.refl _ _⟩
    · go_enter Try.func53, Try.ntmps53
      go_wp2_with fail
      go_loopw [3, 4, 5] (fun i _ _ wr => ∃ j : Nat, j + 1 ≤ n ∧ i = .int .i64 (j + 1 : Nat) ∧ (∀ k, k + 1 < j + 1 → Plan.edge l (k + 1) ≠ Plan.edge l k) ∧ Below w.heap.size w wr) (fun i _ _ _ => n - (intOf i).toNat)
      case atStart => exact ⟨0, by omega, rfl, fun k hk => by omega, Below.refl _ _⟩
      case round =>
        obtain ⟨j, hj, rfl, hA, hB⟩ := hrel
        have HB : Hid (Below w.heap.size w wr) := hB
        clear hB
        have HA : Hid (∀ k, k + 1 < j + 1 → Plan.edge l (k + 1) ≠ Plan.edge l k) := hA
        clear hA
        by_cases hjn : j + 1 < n
        · have hP := HP.out.below HB.out
          obtain ⟨b1, o1, e1, cA1, cB1⟩ := hP.at hjn
          obtain ⟨b0, o0, e0, cA0, cB0⟩ := hP.at (show j < n by omega)
          simp only [Option.some.injEq, Addr.mk.injEq, and_true] at e1 e0
          rw [← e1.1, ← e1.2, Nat.zero_add] at cA1 cB1
          rw [← e0.1, ← e0.2, Nat.zero_add] at cA0 cB0
          clear e1 e0
          obtain ⟨⟨A1, B1⟩, hy1⟩ : ∃ y, l.getD (j + 1) (0, 0) = y := ⟨_, rfl⟩
          obtain ⟨⟨A0, B0⟩, hy0⟩ : ∃ y, l.getD j (0, 0) = y := ⟨_, rfl⟩
          have HY : Hid (Plan.edge l (j + 1) = (A1, B1) ∧ Plan.edge l j = (A0, B0)) := ⟨hy1, hy0⟩
          rw [hy1] at cA1 cB1
          rw [hy0] at cA0 cB0
          simp only at cA1 cB1 cA0 cB0
          clear hy1 hy0 hP
          have heq := fun w => eqE w A1 B1 A0 B0
          have hgd := gdE
          by_cases hEq : A1 = A0 ∧ B1 = B0
          · have hb : (A1 == A0 && B1 == B0) = true := by simp [hEq.1, hEq.2]
            rw [hb] at heq
            have HDup : Hid (¬ Plan.Adj l) := fun h => h j (by have := HL.out; omega) (by rw [HY.out.1, HY.out.2, hEq.1, hEq.2])
            obtain ⟨m, hm⟩ : ∃ m, n - (j + 1) = m := ⟨_, rfl⟩
            have HM : Hid (n = j + 1 + m ∧ 1 ≤ m) := by constructor <;> omega
            have hkc : (j : Int) + 1 ≤ cap := by omega
            clear hEq hb
            go_wp2_with fail
            go_region
            go_wp2_with fail
            clear heq cA1 cB1 cA0 cB0 hm
            have HN0 : Hid (Nums wr.drew base g n cap) := by
              obtain ⟨xs, h1, h2⟩ := HNu.out
              exact ⟨xs, owns_below h1 HB.out.drew, h2⟩
            have HB0 : Hid (Below base w wr.drew) := HB.out.drew.mono (by omega)
            generalize wr.drew = W3 at HN0 HB0 ⊢
            go_loopw [3, 5] (fun i2 k2 ww => ∃ kk t : Nat, i2 = .int .i64 kk ∧ k2 = .int .i64 (t + 1 : Nat) ∧ t + 1 ≤ m ∧ j + 1 ≤ kk ∧ kk ≤ j + 1 + t ∧ Nums ww base g n cap ∧ Below base w ww) (fun _ k2 _ => m - (intOf k2).toNat)
            case atStart => exact ⟨j + 1, 0, rfl, rfl, by have := HM.out; omega, Nat.le_refl _, by omega, HN0.out, HB0.out⟩
            case round =>
              obtain ⟨kk, t, rfl, rfl, ht, hk1, hk2, hNu, hBw⟩ := hrel
              have HN1 : Hid (Nums wr base g n cap) := hNu
              have HB1 : Hid (Below base w wr) := hBw
              clear hNu hBw
              have hkkn : kk < n := by have := HM.out; omega
              have htb : t ≤ 8796093022208 := by have := HM.out; omega
              have hmb : m ≤ 8796093022208 := by have := HM.out; omega
              by_cases htm : t + 1 < m
              · obtain ⟨A1, cA1, _⟩ := HN1.out.at (i := (j + 1) * 2 + (t + 1) * 2) (by have := HM.out; omega)
                obtain ⟨B1, cB1, _⟩ := HN1.out.at (i := (j + 1) * 2 + (t + 1) * 2 + 1) (by have := HM.out; omega)
                obtain ⟨A0, cA0, _⟩ := HN1.out.at (i := (j + 1) * 2 + t * 2) (by have := HM.out; omega)
                obtain ⟨B0, cB0, _⟩ := HN1.out.at (i := (j + 1) * 2 + t * 2 + 1) (by have := HM.out; omega)
                obtain ⟨x0, d0, f0⟩ := HN1.out.at (i := kk * 2) (by omega)
                obtain ⟨x1, d1, f1⟩ := HN1.out.at (i := kk * 2 + 1) (by omega)
                have hne := fun w => neE w A1 B1 A0 B0
                have hgd := gdE
                cases hb : (A1 == A0 && B1 == B0) with
                | true =>
                  rw [hb] at hne
                  clear hb d0 d1 f0 f1
                  go_wp2_with fail
                  go_region
                  go_wp2_with fail
                  go_roundw
                  case rel =>
                    have R1 : Nums wr.drew base g n cap := HN1.out
                    first | exact ⟨kk, t + 1, rfl, by go_num, by omega, hk1, by omega, R1, HB1.out.drew⟩ | ((repeat apply Exists.intro); exact ⟨⟨kk, t + 1, rfl, by go_num, by omega, hk1, by omega, R1, HB1.out.drew⟩, rfl⟩)
                  case measure => simp [intOf]; omega
                | false =>
                  rw [hb] at hne
                  clear hb
                  have hkn' : (kk : Int) < n := by omega
                  go_wp2_with fail
                  go_region
                  go_wp2_with fail
                  go_roundw
                  case rel =>
                    have R1 : Nums ((wr.setCell ⟨g, kk * 2, none⟩ (.int .i64 A1)).setCell ⟨g, kk * 2 + 1, none⟩ (.int .i64 B1)).drew base g n cap := (HN1.out.set _ _).set _ _
                    have R2 : Below base w ((wr.setCell ⟨g, kk * 2, none⟩ (.int .i64 A1)).setCell ⟨g, kk * 2 + 1, none⟩ (.int .i64 B1)).drew := (set_below (set_below HB1.out (by omega) hbg) (by omega) hbg).drew
                    first | exact ⟨kk + 1, t + 1, by go_num, by go_num, by omega, by omega, by omega, R1, R2⟩ | ((repeat apply Exists.intro); exact ⟨⟨kk + 1, t + 1, by go_num, by go_num, by omega, by omega, by omega, R1, R2⟩, rfl⟩)
                  case measure => simp [intOf]; omega
              · have hcl : ∀ ty, (Builtin.clear_ #[25] ty #[.slice (some ⟨g, kk * 2, none⟩) (n - kk) (cap - kk)]).run Try.prog wr = .ok (.tuple #[]) (wr.setCells g (kk * 2) (Builtin.zeroCells (Value.agg #[.int .i64 0, .int .i64 0]).cells (n - kk)).toList) :=
                  fun ty => run_clear_any wr 25 59 ty (.agg #[.int .i64 0, .int .i64 0]) Try.underlying25 Try.zeroValue59 g (kk * 2) (n - kk) (cap - kk) ((n - kk) * 2) (by omega) (zeros_len _) (zeros_one _) (fun i hi => by
                    obtain ⟨z, hz, _⟩ := HN1.out.at (i := kk * 2 + i) (by omega)
                    rw [hz]; rfl) (fun i hi => by
                    obtain ⟨z, _, hf⟩ := HN1.out.at (i := kk * 2 + i) (by omega)
                    exact hf)
                have HBc : Hid (Below base w (wr.setCells g (kk * 2) (Builtin.zeroCells (Value.agg #[.int .i64 0, .int .i64 0]).cells (n - kk)).toList)) := HB1.out.trans (Lib.below_setCells_w hbg _ _ _)
                generalize wr.setCells g (kk * 2) _ = Wc at hcl HBc
                have hkn' : (kk : Int) ≤ n := by omega
                have hkc' : (kk : Int) ≤ cap := by omega
                go_wp2_with fail
                go_ret
                exact ⟨_, _, _, rfl, ⟨fun h => by omega, fun h => absurd h HDup.out⟩, HBc.out⟩
          · have hb : (A1 == A0 && B1 == B0) = false := by
              rw [Bool.and_eq_false_iff, beq_eq_false_iff_ne, beq_eq_false_iff_ne]
              by_cases e : A1 = A0
              · exact .inr (fun e2 => hEq ⟨e, e2⟩)
              · exact .inl e
            rw [hb] at heq
            have HNe : Hid (Plan.edge l (j + 1) ≠ Plan.edge l j) := by
              rw [HY.out.1, HY.out.2]
              intro e
              simp only [Prod.mk.injEq] at e
              exact hEq e
            clear hEq hb
            go_wp2_with fail
            go_region
            go_wp2_with fail
            go_roundw
            case rel =>
              have R1 : ∀ k, k + 1 < j + 1 + 1 → Plan.edge l (k + 1) ≠ Plan.edge l k := fun k hk => by
                by_cases e : k = j
                · rw [e]; exact HNe.out
                · exact HA.out k (by omega)
              first | exact ⟨j + 1, by omega, by go_num, R1, HB.out.drew⟩ | ((repeat apply Exists.intro); exact ⟨⟨j + 1, by omega, by go_num, R1, HB.out.drew⟩, rfl⟩)
            case measure => simp [intOf]; omega
        · have HAd : Hid (Plan.Adj l) := fun k hk => HA.out k (by have := HL.out; omega)
          have HQ : Hid (j + 1 = n) := by show _ = _; omega
          go_wp2_with fail
          go_ret
          exact ⟨_, _, _, rfl, ⟨fun _ => HAd.out, fun _ => rfl⟩, HB.out.mono (by omega)⟩
end Go.Proofs.Ytipdcpekepiphaa
