/-
  When all ask for all: the turns of at most six ports, tick by tick, and how often each input has had each output. Conditions: none.
-/
import Derived.Test.YtlojadodabddpaaDoorIslSeen
namespace Go.Proofs.YtlojadodabddpaaDoor
set_option linter.unusedVariables false
namespace Isl

section
variable {R G A G' A' : Nat → Nat} {n : Nat} {m : Nat → Int}
theorem grant_cg (h : ∀ o, o < n → G o = G' o) {o : Nat} (ho : o < n) : grant R G n m o = grant R G' n m o := by
  unfold grant
  rw [h o ho]
theorem acc_cg (hG : ∀ o, o < n → G o = G' o) (hA : ∀ o, o < n → A o = A' o) {i : Nat} (hi : i < n) : acc R G A n m i = acc R G' A' n m i := by
  unfold acc
  rw [hA i hi]
  exact pickP_congr (fun o ho => by rw [grant_cg hG ho])
theorem movG_cg (hG : ∀ o, o < n → G o = G' o) (hA : ∀ o, o < n → A o = A' o) {o : Nat} (ho : o < n) : movG R G A n m o = movG R G' A' n m o := by
  unfold movG
  rw [grant_cg hG ho, hG o ho]
  rcases grant_cases (R := R) (G := G') (n := n) (m := m) o with ⟨e, _⟩ | ⟨i, hi, e, _⟩
  · rw [e]; simp
  · rw [e]
    simp only [Int.toNat_natCast]
    rw [acc_cg hG hA hi]
theorem movA_cg (hG : ∀ o, o < n → G o = G' o) (hA : ∀ o, o < n → A o = A' o) {o : Nat} (ho : o < n) : movA R G A n m o = movA R G' A' n m o := by
  unfold movA
  rw [acc_cg hG hA ho, hA o ho]
theorem next_cg (hG : ∀ o, o < n → G o = G' o) (hA : ∀ o, o < n → A o = A' o) {o : Nat} (ho : o < n) : next R G A n m o = next R G' A' n m o := by
  unfold next
  rw [acc_cg hG hA ho]
end
/-- each asks for all -/
def allR (n : Nat) : Nat → Nat := reqs n (fun _ => 2 ^ n - 1)
/-- the turns at the beginning of each tick -/
def tb : Nat → List (List Nat × List Nat)
  | 1 => [([0], [0]), ([0], [0]), ([0], [0])]
  | 2 => [([0, 0], [0, 0]), ([1, 0], [1, 0]), ([0, 1], [0, 1]), ([1, 0], [1, 0]), ([0, 1], [0, 1])]
  | 3 => [([0, 0, 0], [0, 0, 0]), ([1, 0, 0], [1, 0, 0]), ([2, 1, 0], [2, 1, 0]), ([0, 2, 1], [0, 2, 1]), ([1, 0, 2], [1, 0, 2]), ([2, 1, 0], [2, 1, 0]), ([0, 2, 1], [0, 2, 1])]
  | 4 => [([0, 0, 0, 0], [0, 0, 0, 0]), ([1, 0, 0, 0], [1, 0, 0, 0]), ([2, 1, 0, 0], [2, 1, 0, 0]), ([3, 2, 1, 0], [3, 2, 1, 0]), ([0, 3, 2, 1], [0, 3, 2, 1]), ([1, 0, 3, 2], [1, 0, 3, 2]), ([2, 1, 0, 3], [2, 1, 0, 3]), ([3, 2, 1, 0], [3, 2, 1, 0]), ([0, 3, 2, 1], [0, 3, 2, 1])]
  | 5 => [([0, 0, 0, 0, 0], [0, 0, 0, 0, 0]), ([1, 0, 0, 0, 0], [1, 0, 0, 0, 0]), ([2, 1, 0, 0, 0], [2, 1, 0, 0, 0]), ([3, 2, 1, 0, 0], [3, 2, 1, 0, 0]), ([4, 3, 2, 1, 0], [4, 3, 2, 1, 0]), ([0, 4, 3, 2, 1], [0, 4, 3, 2, 1]), ([1, 0, 4, 3, 2], [1, 0, 4, 3, 2]), ([2, 1, 0, 4, 3], [2, 1, 0, 4, 3]), ([3, 2, 1, 0, 4], [3, 2, 1, 0, 4]), ([4, 3, 2, 1, 0], [4, 3, 2, 1, 0]), ([0, 4, 3, 2, 1], [0, 4, 3, 2, 1])]
  | 6 => [([0, 0, 0, 0, 0, 0], [0, 0, 0, 0, 0, 0]), ([1, 0, 0, 0, 0, 0], [1, 0, 0, 0, 0, 0]), ([2, 1, 0, 0, 0, 0], [2, 1, 0, 0, 0, 0]), ([3, 2, 1, 0, 0, 0], [3, 2, 1, 0, 0, 0]), ([4, 3, 2, 1, 0, 0], [4, 3, 2, 1, 0, 0]), ([5, 4, 3, 2, 1, 0], [5, 4, 3, 2, 1, 0]), ([0, 5, 4, 3, 2, 1], [0, 5, 4, 3, 2, 1]), ([1, 0, 5, 4, 3, 2], [1, 0, 5, 4, 3, 2]), ([2, 1, 0, 5, 4, 3], [2, 1, 0, 5, 4, 3]), ([3, 2, 1, 0, 5, 4], [3, 2, 1, 0, 5, 4]), ([4, 3, 2, 1, 0, 5], [4, 3, 2, 1, 0, 5]), ([5, 4, 3, 2, 1, 0], [5, 4, 3, 2, 1, 0]), ([0, 5, 4, 3, 2, 1], [0, 5, 4, 3, 2, 1])]
  | _ => []
def litG (n t o : Nat) : Nat := ((tb n).getD t ([], [])).1.getD o 0
def litA (n t o : Nat) : Nat := ((tb n).getD t ([], [])).2.getD o 0
theorem tb_start : ∀ n, n < 7 → ∀ o, o < n → litG n 0 o = 0 ∧ litA n 0 o = 0 := by decide +kernel
theorem tb_step : ∀ n, n < 7 → ∀ t, t < 2 * n → ∀ o, o < n → runG (allR n) (litG n t) (litA n t) n o = litG n (t + 1) o ∧ runA (allR n) (litG n t) (litA n t) n o = litA n (t + 1) o := by decide +kernel
theorem tb_cover : ∀ n, n < 7 → ∀ c, c < n * n → ((List.range (2 * n)).any fun t => decide (run (allR n) (litG n t) (litA n t) n 1 (c / n) = ((c % n : Nat) : Int))) = true := by decide +kernel
/-- the turns behind t ticks -/
def tst (n : Nat) : Nat → (Nat → Nat) × (Nat → Nat)
  | 0 => (fun _ => 0, fun _ => 0)
  | t + 1 => (runG (allR n) (tst n t).1 (tst n t).2 n, runA (allR n) (tst n t).1 (tst n t).2 n)
/-- what is matched in tick t -/
def mt (n t : Nat) : Nat → Int := run (allR n) (tst n t).1 (tst n t).2 n 1
theorem tst_lit {n : Nat} (hn : n < 7) : ∀ t, t ≤ 2 * n → ∀ o, o < n → (tst n t).1 o = litG n t o ∧ (tst n t).2 o = litA n t o
  | 0, _, o, ho => by
    have := tb_start n hn o ho
    exact ⟨this.1.symm, this.2.symm⟩
  | t + 1, ht, o, ho => by
    have ih := tst_lit hn t (by omega)
    have hs := tb_step n hn t (by omega) o ho
    refine ⟨?_, ?_⟩
    · rw [← hs.1]
      exact movG_cg (fun o ho => (ih o ho).1) (fun o ho => (ih o ho).2) ho
    · rw [← hs.2]
      exact movA_cg (fun o ho => (ih o ho).1) (fun o ho => (ih o ho).2) ho
theorem covered {n : Nat} (hn : n < 7) {c : Nat} (hc : c < n * n) : ∃ t, t < 2 * n ∧ mt n t (c / n) = ((c % n : Nat) : Int) := by
  have := tb_cover n hn c hc
  rw [List.any_eq_true] at this
  obtain ⟨t, ht, h⟩ := this
  have ht := List.mem_range.1 ht
  refine ⟨t, ht, ?_⟩
  have h : run (allR n) (litG n t) (litA n t) n 1 (c / n) = ((c % n : Nat) : Int) := by simpa using h
  rw [← h]
  have hl := tst_lit hn t (by omega)
  have hcn : c / n < n := Nat.div_lt_of_lt_mul hc
  exact next_cg (fun o ho => (hl o ho).1) (fun o ho => (hl o ho).2) hcn
/-- how often, behind t ticks, an input has had an output (c: both) -/
def cnt (n t c : Nat) : Nat := ((List.range t).filter fun s => decide (mt n s (c / n) = ((c % n : Nat) : Int))).length
theorem cnt_zero (n c : Nat) : cnt n 0 c = 0 := rfl
theorem cnt_succ (n t c : Nat) : cnt n (t + 1) c = cnt n t c + if mt n t (c / n) = ((c % n : Nat) : Int) then 1 else 0 := by
  unfold cnt
  rw [List.range_succ, List.filter_append, List.length_append]
  by_cases h : mt n t (c / n) = ((c % n : Nat) : Int)
  · rw [if_pos h, List.filter_cons, if_pos (by simpa using h)]; simp
  · rw [if_neg h, List.filter_cons, if_neg (by simpa using h)]; simp
theorem cnt_le (n t c : Nat) : cnt n t c ≤ t := by
  have := List.length_filter_le (fun s => decide (mt n s (c / n) = ((c % n : Nat) : Int))) (List.range t)
  rw [List.length_range] at this
  exact this
theorem cnt_pos {n T c : Nat} (hn : n < 7) (hT : 2 * n ≤ T) (hc : c < n * n) : cnt n T c ≠ 0 := by
  obtain ⟨t, ht, h⟩ := covered hn hc
  unfold cnt
  intro h0
  have h1 := List.eq_nil_of_length_eq_zero h0
  have h2 : t ∈ (List.range T).filter fun s => decide (mt n s (c / n) = ((c % n : Nat) : Int)) := List.mem_filter.2 ⟨List.mem_range.2 (by omega), by simpa using h⟩
  rw [h1] at h2
  cases h2
/-- and of tick t the first i inputs -/
def cI (n t i c : Nat) : Nat := cnt n t c + if c / n < i ∧ mt n t (c / n) = ((c % n : Nat) : Int) then 1 else 0
theorem cI_zero (n t c : Nat) : cI n t 0 c = cnt n t c := by unfold cI; rw [if_neg (fun e => Nat.not_lt_zero _ e.1)]; rfl
theorem cI_full {n t c : Nat} (hc : c < n * n) : cI n t n c = cnt n (t + 1) c := by
  have hcn : c / n < n := Nat.div_lt_of_lt_mul hc
  rw [cnt_succ]
  unfold cI
  by_cases h : mt n t (c / n) = ((c % n : Nat) : Int)
  · rw [if_pos ⟨hcn, h⟩, if_pos h]
  · rw [if_neg (fun e => h e.2), if_neg h]
theorem cI_miss {n t i : Nat} (h : mt n t i < 0) (c : Nat) : cI n t i c = cI n t (i + 1) c := by
  unfold cI
  congr 1
  by_cases e : c / n = i
  · rw [e, if_neg (by omega), if_neg (fun e => by omega)]
  · by_cases h2 : c / n < i
    · by_cases h3 : mt n t (c / n) = ((c % n : Nat) : Int)
      · rw [if_pos ⟨h2, h3⟩, if_pos ⟨by omega, h3⟩]
      · rw [if_neg (fun e => h3 e.2), if_neg (fun e => h3 e.2)]
    · rw [if_neg (fun e => h2 e.1), if_neg (fun e => by omega)]
theorem cI_at {n t i o : Nat} (ho : o < n) : cI n t i (i * n + o) = cnt n t (i * n + o) := by
  unfold cI
  rw [if_neg]
  · rfl
  · rintro ⟨h, _⟩
    rw [Nat.mul_comm, Nat.mul_add_div (by omega), Nat.div_eq_of_lt ho] at h
    omega
theorem cI_hit {n t i o : Nat} (ho : o < n) (h : mt n t i = (o : Nat)) (c : Nat) : (if c = i * n + o then cI n t i (i * n + o) + 1 else cI n t i c) = cI n t (i + 1) c := by
  have hd : (i * n + o) / n = i := by rw [Nat.mul_comm, Nat.mul_add_div (by omega), Nat.div_eq_of_lt ho]; omega
  have hm : (i * n + o) % n = o := by rw [Nat.mul_comm, Nat.mul_add_mod, Nat.mod_eq_of_lt ho]
  by_cases e : c = i * n + o
  · subst e
    rw [if_pos rfl, cI_at ho]
    unfold cI
    rw [hd, hm, if_pos ⟨by omega, h⟩]
  · rw [if_neg e]
    unfold cI
    congr 1
    by_cases e2 : c / n = i
    · rw [e2, if_neg (by omega), if_neg]
      rintro ⟨_, h2⟩
      rw [h] at h2
      apply e
      have h3 := Nat.div_add_mod c n
      rw [e2, Nat.mul_comm] at h3
      omega
    · by_cases h2 : c / n < i
      · by_cases h3 : mt n t (c / n) = ((c % n : Nat) : Int)
        · rw [if_pos ⟨h2, h3⟩, if_pos ⟨by omega, h3⟩]
        · rw [if_neg (fun e => h3 e.2), if_neg (fun e => h3 e.2)]
      · rw [if_neg (fun e => h2 e.1), if_neg (fun e => by omega)]
end Isl
end Go.Proofs.YtlojadodabddpaaDoor
