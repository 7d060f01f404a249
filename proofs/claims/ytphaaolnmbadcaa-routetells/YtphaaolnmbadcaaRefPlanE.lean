/-
  The document's edges (package shunterref12): may they be? Conditions: none but that the plan's rows are led to.
-/
import Derived.Test.YtphaaolnmbadcaaRefPlanD
namespace Go.Proofs.Ytphaaolnmbadcaa
open Go.ChangeShapes Go.WideShapes Go.ChangeAt Go.RowKit
set_option linter.unusedVariables false

theorem gdE : Try.prog.eqGuardType Try.prog.depth 31 = false := by kernel_rfl
theorem eqE (w : World) (a b c d : Int) : (binOp .eql 31 (.agg #[.int .i64 a, .int .i64 b]) (.agg #[.int .i64 c, .int .i64 d])).run Try.prog w = .ok (.bool (a == c && b == d)) w := by
  have u3 := Try.underlying3
  have a3 := Try.isAgg3
  have z3 := Try.sizeOf3
  have hS : Try.prog.underlying 31 = some (.struct (Try.prog.fieldsOf 31)) := by kernel_rfl
  have hp : Try.prog.stoodInHeld 31 = false := by kernel_rfl
  rw [run_eql_struct, show (10000 : Nat) = 9999 + 1 from rfl, run_equalIn_agg w 9999 31 _ _ hS hp]
  simp only [Program.fieldsOf, Try.underlying31]
  go_simp
  by_cases h1 : a = c <;> by_cases h2 : b = d <;> simp [h1, h2]
namespace Plan
def edge (es : List (Int × Int)) (k : Nat) : Int × Int := es.getD k (0, 0)
theorem edge_mem {es : List (Int × Int)} {k : Nat} (h : k < es.length) : edge es k ∈ es := by
  unfold edge
  rw [List.getD_eq_getElem?_getD, List.getElem?_eq_getElem h]
  exact List.getElem_mem h
theorem mem_edge {es : List (Int × Int)} {e : Int × Int} (h : e ∈ es) : ∃ k, k < es.length ∧ edge es k = e := by
  obtain ⟨k, hk, rfl⟩ := List.getElem_of_mem h
  exact ⟨k, hk, by unfold edge; rw [List.getD_eq_getElem?_getD, List.getElem?_eq_getElem hk]; rfl⟩
def Good (N : Int) (e : Int × Int) : Prop := 0 ≤ e.1 ∧ e.1 < e.2 ∧ e.2 < N
theorem all_good (N : Int) (es : List (Int × Int)) : es.all (fun e => decide (0 ≤ e.1) && decide (e.1 < e.2) && decide (e.2 < N)) = true ↔ ∀ e ∈ es, Good N e := by
  rw [List.all_eq_true]
  constructor
  · intro h e he
    have := h e he
    simp only [Bool.and_eq_true, decide_eq_true_eq] at this
    exact ⟨this.1.1, this.1.2, this.2⟩
  · intro h e he
    have := h e he
    simp only [Bool.and_eq_true, decide_eq_true_eq]
    exact ⟨⟨this.1, this.2.1⟩, this.2.2⟩
theorem edgesOk_iff (N : Int) (es : List (Int × Int)) : edgesOk N es = true ↔ (∀ e ∈ es, Good N e) ∧ es.Nodup ∧ es.length ≤ 15 := by
  unfold edgesOk
  rw [Bool.and_eq_true, Bool.and_eq_true, all_good, decide_eq_true_eq, decide_eq_true_eq, and_assoc]
theorem edgesOk_bad {N : Int} {es : List (Int × Int)} {k : Nat} (h : k < es.length) (hb : ¬ Good N (edge es k)) : edgesOk N es = false := by
  rw [← Bool.not_eq_true, edgesOk_iff]
  exact fun h1 => hb (h1.1 _ (edge_mem h))
theorem edgesOk_dup {N : Int} {es : List (Int × Int)} {j k : Nat} (hj : j < k) (h : k < es.length) (he : edge es j = edge es k) : edgesOk N es = false := by
  rw [← Bool.not_eq_true, edgesOk_iff]
  intro h1
  have := List.pairwise_iff_getElem.1 h1.2.1 j k (by omega) h hj
  unfold edge at he
  rw [List.getD_eq_getElem?_getD, List.getElem?_eq_getElem (show j < es.length by omega), List.getD_eq_getElem?_getD, List.getElem?_eq_getElem h] at he
  exact this he
/-- the first k are such as may be -/
def Pre (N : Int) (es : List (Int × Int)) (k : Nat) : Prop := (∀ j, j < k → Good N (edge es j)) ∧ ∀ i j, i < j → j < k → edge es i ≠ edge es j
theorem Pre.zero (N : Int) (es : List (Int × Int)) : Pre N es 0 := ⟨fun j hj => by omega, fun i j h1 h2 => by omega⟩
theorem Pre.succ {N : Int} {es : List (Int × Int)} {k : Nat} (h : Pre N es k) (hg : Good N (edge es k)) (hn : ∀ j, j < k → edge es j ≠ edge es k) : Pre N es (k + 1) := by
  refine ⟨fun j hj => ?_, fun i j h1 h2 => ?_⟩
  · by_cases e : j = k
    · rw [e]; exact hg
    · exact h.1 j (by omega)
  · by_cases e : j = k
    · rw [e]; exact hn i (by omega)
    · exact h.2 i j h1 (by omega)
theorem edgesOk_pre {N : Int} {es : List (Int × Int)} (h : Pre N es es.length) : edgesOk N es = decide (es.length ≤ 15) := by
  have h1 : (∀ e ∈ es, Good N e) := fun e he => by
    obtain ⟨k, hk, rfl⟩ := mem_edge he
    exact h.1 k hk
  have h2 : es.Nodup := by
    refine List.pairwise_iff_getElem.2 fun i j hi hj hij => ?_
    have := h.2 i j hij hj
    unfold edge at this
    rw [List.getD_eq_getElem?_getD, List.getElem?_eq_getElem hi, List.getD_eq_getElem?_getD, List.getElem?_eq_getElem hj] at this
    exact this
  by_cases hl : es.length ≤ 15
  · rw [decide_eq_true hl]
    exact (edgesOk_iff N es).2 ⟨h1, h2, hl⟩
  · rw [decide_eq_false hl, ← Bool.not_eq_true, edgesOk_iff]
    exact fun h => hl h.2.2
end Plan
set_option maxHeartbeats 4000000 in
set_option maxRecDepth 100000 in
theorem redges_any {w : World} {p : PV} {es : List (Int × Int)} {ws : List Int} {ns : List Nat} (h : Pl w p es ws ns) :
    Calls Try.prog 62 #[p.val] w fun e w' => e = .returned (.bool (Plan.edgesOk p.nodes es)) ∧ Below w.heap.size w w' := by
  have heb := h.eb
  have hen := h.he.1
  have HX : Hid (Bxd (w.alloc p.obj) w.heap.size p) := bxd_new w p
  have HW : Hid (Below w.heap.size w (w.alloc p.obj) ∧ (w.alloc p.obj).heap.size = w.heap.size + 1) := ⟨fresh _ _, by simp⟩
  obtain ⟨N, lanes, room, queue, rounds, every, bag, start, ea, en, ec, wa, wn, wc, na, nn, nc⟩ := p
  simp only [PV.val, PV.obj] at heb hen HX HW ⊢
  have HE : Hid (Pr w ea en es) := h.he
  clear h
  go_enter Try.func62, Try.ntmps62
  go_wp2_with fail
  generalize w.alloc _ = W1 at HX HW ⊢
  have HR : Hid (∀ w', Below W1.heap.size W1 w' → Below w.heap.size w w') := fun w' h => HW.out.1.trans (h.mono (by have := HW.out.2; omega))
  go_loopw [3, 4, 5] (fun i _ _ wr => ∃ k : Nat, k ≤ en ∧ i = .int .i64 k ∧ Plan.Pre N es k ∧ Below W1.heap.size W1 wr) (fun i _ _ _ => en - (intOf i).toNat)
  case atStart => exact ⟨0, Nat.zero_le _, rfl, Plan.Pre.zero _ _, Below.refl _ _⟩
  case round =>
    obtain ⟨k, hk, rfl, hP, hB⟩ := hrel
    have HP : Hid (Plan.Pre N es k) := hP
    have HB : Hid (Below W1.heap.size W1 wr) := hB
    have hx := HX.out.below hB
    have hc0 := hx.c0
    have hc1 := hx.c1
    simp only at hc0 hc1
    have hc0' : ∀ o, (wr.alloc o).cell? ⟨w.heap.size, 0, none⟩ = some (.int .i64 N) := fun o => ((fresh wr o).cell (p := ⟨w.heap.size, 0, none⟩) (cell_lt hc0)).trans hc0
    have hsz := HB.out.size
    clear hP hB hx
    by_cases hkn : k < en
    · have hEr := (HE.out.below HW.out.1).below HB.out
      obtain ⟨b, off, ha, hcA, hcB⟩ := hEr.at hkn
      subst ha
      have HEr : Hid (Pr wr (some ⟨b, off, none⟩) en es) := hEr
      clear hEr
      obtain ⟨⟨A, B⟩, hy⟩ : ∃ y, es.getD k (0, 0) = y := ⟨_, rfl⟩
      have HY : Hid (Plan.edge es k = (A, B)) := hy
      rw [hy] at hcA hcB
      simp only at hcA hcB
      clear hy
      have HBad : Hid (¬ Plan.Good N (A, B) → Plan.edgesOk N es = false) := fun hb => Plan.edgesOk_bad (k := k) (by omega) (by rw [HY.out]; exact hb)
      by_cases h1 : A < 0
      · have hf := HBad.out (fun h => by have := h.1; simp only at this; omega)
        have HF : Hid (Plan.edgesOk N es = false) := hf
        clear hf
        go_wp2_with fail
        go_ret
        exact ⟨by rw [HF.out]; rfl, HR.out _ (HB.out.alloc hsz _)⟩
      · by_cases h2 : B ≤ A
        · have hf := HBad.out (fun h => by have := h.2.1; simp only at this; omega)
          have HF : Hid (Plan.edgesOk N es = false) := hf
          clear hf
          go_wp2_with fail
          go_ret
          exact ⟨by rw [HF.out]; rfl, HR.out _ (HB.out.alloc hsz _)⟩
        · by_cases h3 : N ≤ B
          · have hf := HBad.out (fun h => by have := h.2.2; simp only at this; omega)
            have HF : Hid (Plan.edgesOk N es = false) := hf
            clear hf
            go_wp2_with fail
            go_ret
            exact ⟨by rw [HF.out]; rfl, HR.out _ (HB.out.alloc hsz _)⟩
          · have HG : Hid (Plan.Good N (Plan.edge es k)) := by rw [HY.out]; exact ⟨by simp only; omega, by simp only; omega, by simp only; omega⟩
            go_wp2_with fail
            have HB2 : Hid (Below W1.heap.size W1 (wr.alloc (.cells #[.int .i64 A, .int .i64 B] 31))) := HB.out.alloc hsz _
            have HE2 : Hid (Pr (wr.alloc (.cells #[.int .i64 A, .int .i64 B] 31)) (some ⟨b, off, none⟩) en es) := HEr.out.below (fresh _ _)
            have d0 : (wr.alloc (.cells #[.int .i64 A, .int .i64 B] 31)).cell? ⟨wr.heap.size, 0, none⟩ = some (.int .i64 A) := by simp
            have d1 : (wr.alloc (.cells #[.int .i64 A, .int .i64 B] 31)).cell? ⟨wr.heap.size, 1, none⟩ = some (.int .i64 B) := by simp
            have d2 : (wr.alloc (.cells #[.int .i64 A, .int .i64 B] 31)).cell? ⟨w.heap.size, 1, none⟩ = some (.slice (some ⟨b, off, none⟩) en ec) := ((fresh wr _).cell (p := ⟨w.heap.size, 1, none⟩) (cell_lt hc1)).trans hc1
            clear hc0'
            generalize wr.alloc _ = W2 at HB2 HE2 d0 d1 d2 ⊢
            go_loopw [5] (fun i ww => ∃ j : Nat, j ≤ k ∧ i = .int .i64 j ∧ (∀ t, t < j → Plan.edge es t ≠ Plan.edge es k) ∧ Below W2.heap.size W2 ww) (fun i _ => k - (intOf i).toNat)
            case atStart => exact ⟨0, Nat.zero_le _, rfl, fun t ht => by omega, Below.refl _ _⟩
            case round =>
              obtain ⟨j, hj, rfl, hN, hB3⟩ := hrel
              have HN : Hid (∀ t, t < j → Plan.edge es t ≠ Plan.edge es k) := hN
              have HB3 : Hid (Below W2.heap.size W2 wr) := hB3
              clear hN hB3
              have f0 := (HB3.out.cell (p := ⟨_, 0, none⟩) (cell_lt d0)).trans d0
              have f1 := (HB3.out.cell (p := ⟨_, 1, none⟩) (cell_lt d1)).trans d1
              have f2 := (HB3.out.cell (p := ⟨_, 1, none⟩) (cell_lt d2)).trans d2
              have HD : Hid (W2.cell? ⟨_, 0, none⟩ = some (.int .i64 A) ∧ W2.cell? ⟨_, 1, none⟩ = some (.int .i64 B) ∧ W2.cell? ⟨_, 1, none⟩ = some (.slice (some ⟨b, off, none⟩) en ec)) := ⟨d0, d1, d2⟩
              clear d0 d1 d2 hc0 hc1 hcA hcB
              by_cases hjk : j < k
              · obtain ⟨b', off', e, g0, g1⟩ := (HE2.out.below HB3.out).at (show j < en by omega)
                simp only [Option.some.injEq, Addr.mk.injEq, and_true] at e
                obtain ⟨rfl, rfl⟩ := e
                obtain ⟨⟨A', B'⟩, hy⟩ : ∃ y, es.getD j (0, 0) = y := ⟨_, rfl⟩
                have HY2 : Hid (Plan.edge es j = (A', B')) := hy
                rw [hy] at g0 g1
                simp only at g0 g1
                clear hy
                have heq := fun w => eqE w A' B' A B
                have hgd := gdE
                by_cases hEq : A' = A ∧ B' = B
                · have hb : (A' == A && B' == B) = true := by simp [hEq.1, hEq.2]
                  have hf := Plan.edgesOk_dup (N := N) (es := es) (j := j) (k := k) hjk (by omega) (by rw [HY2.out, HY.out, hEq.1, hEq.2])
                  have HF : Hid (Plan.edgesOk N es = false) := hf
                  rw [hb] at heq
                  clear hf hEq hb
                  go_wp2_with fail
                  go_region
                  go_wp2_with fail
                  go_ret
                  exact ⟨by rw [HF.out]; rfl, HR.out _ (HB2.out.trans (HB3.out.drew.mono HB2.out.size))⟩
                · have hb : (A' == A && B' == B) = false := by
                    rw [Bool.and_eq_false_iff, beq_eq_false_iff_ne, beq_eq_false_iff_ne]
                    by_cases e : A' = A
                    · exact .inr (fun e2 => hEq ⟨e, e2⟩)
                    · exact .inl e
                  rw [hb] at heq
                  have HNe : Hid (Plan.edge es j ≠ Plan.edge es k) := by
                    rw [HY2.out, HY.out]
                    intro e
                    simp only [Prod.mk.injEq] at e
                    exact hEq e
                  clear hEq hb
                  go_wp2_with fail
                  go_region
                  go_wp2_with fail
                  go_roundw
                  case rel =>
                    have R1 : ∀ t, t < j + 1 → Plan.edge es t ≠ Plan.edge es k := fun t ht => by
                      by_cases e : t = j
                      · rw [e]; exact HNe.out
                      · exact HN.out t (by omega)
                    first | exact ⟨j + 1, by omega, by go_num, R1, HB3.out.drew⟩ | ((repeat apply Exists.intro); exact ⟨⟨j + 1, by omega, by go_num, R1, HB3.out.drew⟩, rfl⟩)
                  case measure => simp [intOf]; omega
              · obtain rfl : j = k := by omega
                go_wp2_with fail
                go_roundw
                case rel =>
                  have R1 : Plan.Pre N es (j + 1) := HP.out.succ HG.out HN.out
                  have R2 := HB2.out.trans (HB3.out.mono HB2.out.size)
                  first | exact ⟨j + 1, by omega, by go_num, R1, R2⟩ | ((repeat apply Exists.intro); exact ⟨⟨j + 1, by omega, by go_num, R1, R2⟩, rfl⟩)
                case measure => simp [intOf]; omega
    · obtain rfl : k = en := by omega
      have hf := Plan.edgesOk_pre (N := N) (es := es) (by rw [hen]; exact HP.out)
      rw [hen] at hf
      have HF : Hid (Plan.edgesOk N es = decide (k ≤ 15)) := hf
      clear hf
      by_cases h15 : k ≤ 15
      · have h15' : (k : Int) ≤ 15 := by omega
        go_wp2_with fail
        go_ret
        exact ⟨by rw [HF.out, decide_eq_true h15]; rfl, HR.out _ HB.out⟩
      · have h15' : ¬ (k : Int) ≤ 15 := by omega
        go_wp2_with fail
        go_ret
        exact ⟨by rw [HF.out, decide_eq_false h15]; rfl, HR.out _ HB.out⟩
end Go.Proofs.Ytphaaolnmbadcaa
