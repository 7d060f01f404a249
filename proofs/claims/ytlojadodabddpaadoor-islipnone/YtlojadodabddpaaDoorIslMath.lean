/-
  Matching by turns, as plain functions: what each output grants, what each input accepts, one round, so many rounds, and where they look first then. Conditions: none.
-/
import Derived.Test.YtlojadodabddpaaDoorMaskMath
namespace Go.Proofs.YtlojadodabddpaaDoor.Isl
set_option linter.unusedSimpArgs false

/-- the first one, round, that p holds of; -1: none -/
def pickP (p : Nat → Bool) (f n : Nat) : Int := match (Mask.roundOf f n).find? p with
  | some i => (i : Nat)
  | none => -1
theorem pick_eq (m f n : Nat) : Mask.pick m f n = pickP m.testBit f n := rfl
theorem round_lt {f n i : Nat} (h : i ∈ Mask.roundOf f n) : i < n := by
  obtain ⟨j, hj, rfl⟩ := List.mem_map.1 h
  have := List.mem_range.1 hj
  exact Nat.mod_lt _ (by omega)
theorem round_mem {f n i : Nat} (hi : i < n) : i ∈ Mask.roundOf f n := by
  refine List.mem_map.2 ⟨(i + (n - f % n)) % n, List.mem_range.2 (Nat.mod_lt _ (by omega)), ?_⟩
  have hf : f % n < n := Nat.mod_lt _ (by omega)
  rw [Nat.add_mod, Nat.mod_mod, ← Nat.add_mod, show f + (i + (n - f % n)) = i + n + (f - f % n) by have := Nat.mod_le f n; omega]
  rw [Nat.add_mod, show (f - f % n) % n = 0 by
    have := Nat.div_add_mod f n
    rw [show f - f % n = n * (f / n) by omega]
    exact Nat.mul_mod_right _ _, Nat.add_zero, Nat.mod_mod, Nat.add_mod_right, Nat.mod_eq_of_lt hi]
theorem find_congr {p q : Nat → Bool} : ∀ (l : List Nat), (∀ i ∈ l, p i = q i) → l.find? p = l.find? q
  | [], _ => rfl
  | x :: l, h => by
    rw [List.find?_cons, List.find?_cons, h x (by simp), find_congr l (fun i hi => h i (by simp [hi]))]
theorem pickP_congr {p q : Nat → Bool} {f n : Nat} (h : ∀ i, i < n → p i = q i) : pickP p f n = pickP q f n := by
  unfold pickP
  rw [find_congr _ (fun i hi => h i (round_lt hi))]
theorem pickP_cases (p : Nat → Bool) (f n : Nat) : (pickP p f n = -1 ∧ ∀ i, i < n → p i = false) ∨ ∃ i, i < n ∧ pickP p f n = (i : Nat) ∧ p i = true := by
  unfold pickP
  cases h : (Mask.roundOf f n).find? p with
  | none =>
    refine .inl ⟨rfl, fun i hi => ?_⟩
    have := List.find?_eq_none.1 h i (round_mem hi)
    simpa using this
  | some i => exact .inr ⟨i, round_lt (List.mem_of_find?_eq_some h), rfl, List.find?_some h⟩
theorem pickP_ge (p : Nat → Bool) (f n : Nat) : -1 ≤ pickP p f n ∧ pickP p f n < n ∨ n = 0 ∧ pickP p f n = -1 := by
  rcases pickP_cases p f n with ⟨h, _⟩ | ⟨i, hi, h, _⟩ <;> rw [h] <;> omega

/-- none is matched -/
def none_ : Nat → Int := fun _ => -1
def taken (n : Nat) (m : Nat → Int) (o : Nat) : Bool := (List.range n).any fun i => decide (m i = (o : Nat))
theorem taken_iff {n : Nat} {m : Nat → Int} {o : Nat} : taken n m o = true ↔ ∃ i, i < n ∧ m i = (o : Nat) := by
  simp [taken, List.any_eq_true]
section
variable (R G A : Nat → Nat) (n : Nat) (m : Nat → Int)
/-- input i asks for output o, and neither is matched -/
def ask (o i : Nat) : Bool := decide (m i < 0) && (R i).testBit o && !taken n m o
def grant (o : Nat) : Int := pickP (ask R n m o) (G o) n
def acc (i : Nat) : Int := pickP (fun o => decide (grant R G n m o = (i : Nat))) (A i) n
def next : Nat → Int := fun i => if 0 ≤ acc R G A n m i then acc R G A n m i else m i
def movG : Nat → Nat := fun o => if 0 ≤ grant R G n m o ∧ acc R G A n m (grant R G n m o).toNat = (o : Nat) then ((grant R G n m o).toNat + 1) % n else G o
def movA : Nat → Nat := fun i => if 0 ≤ acc R G A n m i then ((acc R G A n m i).toNat + 1) % n else A i
end
def rounds (R G A : Nat → Nat) (n : Nat) : Nat → (Nat → Int) → (Nat → Int)
  | 0, m => m
  | k + 1, m => rounds R G A n k (next R G A n m)
theorem rounds_add (R G A : Nat → Nat) (n : Nat) : ∀ (j k : Nat) (m : Nat → Int), rounds R G A n (j + k) m = rounds R G A n k (rounds R G A n j m)
  | 0, k, m => by rw [Nat.zero_add]; rfl
  | j + 1, k, m => by rw [Nat.add_right_comm]; exact rounds_add R G A n j k _
theorem rounds_snoc (R G A : Nat → Nat) (n k : Nat) (m : Nat → Int) : rounds R G A n (k + 1) m = next R G A n (rounds R G A n k m) := rounds_add R G A n k 1 m
/-- where they look first behind a run -/
def runG (R G A : Nat → Nat) (n : Nat) : Nat → Nat := movG R G A n none_
def runA (R G A : Nat → Nat) (n : Nat) : Nat → Nat := movA R G A n none_
/-- matched in k rounds; the turns move in the first one alone -/
def run (R G A : Nat → Nat) (n : Nat) : Nat → (Nat → Int)
  | 0 => none_
  | k + 1 => rounds R (runG R G A n) (runA R G A n) n k (next R G A n none_)
theorem run_succ (R G A : Nat → Nat) (n k : Nat) (h : 1 ≤ k) : run R G A n (k + 1) = next R (runG R G A n) (runA R G A n) n (run R G A n k) := by
  obtain ⟨j, rfl⟩ : ∃ j, k = j + 1 := ⟨k - 1, by omega⟩
  exact rounds_snoc R (runG R G A n) (runA R G A n) n j _

section
variable {R G A : Nat → Nat} {n : Nat} {m : Nat → Int}
theorem ask_free {o i : Nat} (h : ask R n m o i = true) : m i < 0 ∧ (R i).testBit o = true ∧ taken n m o = false := by
  simp [ask] at h
  exact ⟨h.1.1, h.1.2, h.2⟩
theorem grant_cases (o : Nat) : (grant R G n m o = -1 ∧ ∀ i, i < n → ask R n m o i = false) ∨ ∃ i, i < n ∧ grant R G n m o = (i : Nat) ∧ ask R n m o i = true := pickP_cases _ _ _
theorem grant_some {o i : Nat} (h : grant R G n m o = (i : Nat)) : i < n ∧ ask R n m o i = true := by
  rcases grant_cases (R := R) (G := G) (n := n) (m := m) o with ⟨e, _⟩ | ⟨j, hj, e, ha⟩
  · omega
  · obtain rfl : i = j := by omega
    exact ⟨hj, ha⟩
theorem acc_cases (i : Nat) : (acc R G A n m i = -1 ∧ ∀ o, o < n → grant R G n m o ≠ (i : Nat)) ∨ ∃ o, o < n ∧ acc R G A n m i = (o : Nat) ∧ grant R G n m o = (i : Nat) := by
  rcases pickP_cases (fun o => decide (grant R G n m o = (i : Nat))) (A i) n with ⟨e, h⟩ | ⟨o, ho, e, h⟩
  · exact .inl ⟨e, fun o ho => by simpa using h o ho⟩
  · exact .inr ⟨o, ho, e, by simpa using h⟩
theorem acc_some {i o : Nat} (h : acc R G A n m i = (o : Nat)) : o < n ∧ i < n ∧ grant R G n m o = (i : Nat) ∧ ask R n m o i = true := by
  rcases acc_cases (R := R) (G := G) (A := A) (n := n) (m := m) i with ⟨e, _⟩ | ⟨p, hp, e, hg⟩
  · omega
  · obtain rfl : o = p := by omega
    have := grant_some hg
    exact ⟨hp, this.1, hg, this.2⟩
theorem acc_taken {i : Nat} (h : 0 ≤ m i) : acc R G A n m i = -1 := by
  rcases acc_cases (R := R) (G := G) (A := A) (n := n) (m := m) i with ⟨e, _⟩ | ⟨p, hp, e, hg⟩
  · exact e
  · have := (ask_free (grant_some hg).2).1
    omega
theorem acc_out {i : Nat} (h : n ≤ i) : acc R G A n m i = -1 := by
  rcases acc_cases (R := R) (G := G) (A := A) (n := n) (m := m) i with ⟨e, _⟩ | ⟨p, hp, e, hg⟩
  · exact e
  · have := (grant_some hg).1
    omega
theorem next_keeps {i : Nat} (h : 0 ≤ m i) : next R G A n m i = m i := by
  unfold next
  rw [acc_taken h, if_neg (by omega)]
theorem rounds_keeps : ∀ (k : Nat) (m : Nat → Int) (i : Nat), 0 ≤ m i → rounds R G A n k m i = m i
  | 0, m, i, h => rfl
  | k + 1, m, i, h => by
    have e := next_keeps (R := R) (G := G) (A := A) (n := n) h
    rw [rounds, rounds_keeps k _ i (by rw [e]; exact h), e]
/-- a round in which none accepts changes nothing -/
theorem next_none (h : ∀ i, i < n → acc R G A n m i = -1) : next R G A n m = m := by
  funext i
  unfold next
  rcases Nat.lt_or_ge i n with hi | hi
  · rw [h i hi, if_neg (by omega)]
  · rw [acc_out hi, if_neg (by omega)]
theorem rounds_none (h : ∀ i, i < n → acc R G A n m i = -1) : ∀ k, rounds R G A n k m = m
  | 0 => rfl
  | k + 1 => by rw [rounds, next_none h, rounds_none h k]
theorem movG_none (h : ∀ i, i < n → acc R G A n m i = -1) : movG R G A n m = G := by
  funext o
  unfold movG
  rw [if_neg]
  rintro ⟨h0, e⟩
  obtain ⟨i, hi⟩ := Int.eq_ofNat_of_zero_le h0
  rw [hi] at e
  simp at e
  have := acc_some e
  rw [h i this.2.1] at e
  omega
theorem movA_none (h : ∀ i, i < n → acc R G A n m i = -1) : movA R G A n m = A := by
  funext i
  unfold movA
  rcases Nat.lt_or_ge i n with hi | hi
  · rw [h i hi, if_neg (by omega)]
  · rw [acc_out hi, if_neg (by omega)]
theorem movG_at {i o : Nat} (h : acc R G A n m i = (o : Nat)) : movG R G A n m o = (i + 1) % n := by
  have := acc_some h
  unfold movG
  rw [this.2.2.1, if_pos]
  · simp
  · simp [h]
theorem movG_no {o : Nat} (h : ∀ i, i < n → acc R G A n m i ≠ (o : Nat)) : movG R G A n m o = G o := by
  unfold movG
  rw [if_neg]
  rintro ⟨h0, e⟩
  obtain ⟨i, hi⟩ := Int.eq_ofNat_of_zero_le h0
  rw [hi] at e
  simp at e
  exact h i (acc_some e).2.1 e
theorem movA_at {i o : Nat} (h : acc R G A n m i = (o : Nat)) : movA R G A n m i = (o + 1) % n := by
  unfold movA
  rw [h, if_pos (by omega)]
  simp
theorem movA_no {i : Nat} (h : acc R G A n m i = -1) : movA R G A n m i = A i := by
  unfold movA
  rw [h, if_neg (by omega)]
theorem movG_lt (hG : ∀ o, o < n → G o < n) : ∀ o, o < n → movG R G A n m o < n := fun o ho => by
  unfold movG
  split
  · exact Nat.mod_lt _ (by omega)
  · exact hG o ho
theorem movA_lt (hA : ∀ o, o < n → A o < n) : ∀ o, o < n → movA R G A n m o < n := fun o ho => by
  unfold movA
  split
  · exact Nat.mod_lt _ (by omega)
  · exact hA o ho

/-- a matching of requests alone -/
structure Ok (R : Nat → Nat) (n : Nat) (m : Nat → Int) : Prop where
  lo : ∀ i, -1 ≤ m i
  hi : ∀ i, m i < (n : Nat) ∨ m i = -1
  asks : ∀ i o : Nat, m i = (o : Nat) → i < n ∧ o < n ∧ (R i).testBit o = true
  one : ∀ i j o : Nat, m i = (o : Nat) → m j = (o : Nat) → i = j
theorem Ok.none : Ok R n none_ := ⟨fun _ => by simp [none_], fun _ => .inr rfl, fun i o h => by simp [none_] at h, fun i j o h => by simp [none_] at h⟩
theorem next_cases (i : Nat) : (next R G A n m i = m i ∧ acc R G A n m i = -1) ∨ ∃ o, next R G A n m i = (o : Nat) ∧ acc R G A n m i = (o : Nat) := by
  unfold next
  rcases acc_cases (R := R) (G := G) (A := A) (n := n) (m := m) i with ⟨e, _⟩ | ⟨p, hp, e, hg⟩
  · rw [e, if_neg (by omega)]; exact .inl ⟨rfl, rfl⟩
  · rw [e, if_pos (by omega)]; exact .inr ⟨p, rfl, rfl⟩
theorem Ok.next (h : Ok R n m) : Ok R n (next R G A n m) := by
  refine ⟨fun i => ?_, fun i => ?_, fun i o e => ?_, fun i j o e1 e2 => ?_⟩
  · rcases next_cases (R := R) (G := G) (A := A) (n := n) (m := m) i with ⟨e, _⟩ | ⟨p, e, _⟩
    · rw [e]; exact h.lo i
    · rw [e]; omega
  · rcases next_cases (R := R) (G := G) (A := A) (n := n) (m := m) i with ⟨e, _⟩ | ⟨p, e, ea⟩
    · rw [e]; exact h.hi i
    · rw [e]; have := (acc_some ea).1; omega
  · rcases next_cases (R := R) (G := G) (A := A) (n := n) (m := m) i with ⟨e', _⟩ | ⟨p, e', ea⟩
    · rw [e'] at e; exact h.asks i o e
    · rw [e'] at e
      obtain rfl : p = o := by omega
      have := acc_some ea
      exact ⟨this.2.1, this.1, (ask_free this.2.2.2).2.1⟩
  · have key : ∀ (i j o : Nat), m i = (o : Nat) → acc R G A n m j = (o : Nat) → False := fun i j o e1 e2 => by
      have h1 := acc_some e2
      have h2 := (ask_free h1.2.2.2).2.2
      have h3 : taken n m o = true := taken_iff.2 ⟨i, (h.asks i o e1).1, e1⟩
      rw [h3] at h2; cases h2
    rcases next_cases (R := R) (G := G) (A := A) (n := n) (m := m) i with ⟨f1, _⟩ | ⟨p, f1, a1⟩ <;>
      rcases next_cases (R := R) (G := G) (A := A) (n := n) (m := m) j with ⟨f2, _⟩ | ⟨q, f2, a2⟩
    · rw [f1] at e1; rw [f2] at e2; exact h.one i j o e1 e2
    · rw [f1] at e1; rw [f2] at e2
      obtain rfl : q = o := by omega
      exact (key i j q e1 a2).elim
    · rw [f1] at e1; rw [f2] at e2
      obtain rfl : p = o := by omega
      exact (key j i p e2 a1).elim
    · rw [f1] at e1; rw [f2] at e2
      obtain rfl : p = o := by omega
      obtain rfl : q = p := by omega
      have h1 := (acc_some a1).2.2.1
      have h2 := (acc_some a2).2.2.1
      omega
theorem Ok.rounds : ∀ (k : Nat) {m : Nat → Int}, Ok R n m → Ok R n (rounds R G A n k m)
  | 0, _, h => h
  | k + 1, _, h => Ok.rounds k h.next
end
theorem Ok.run (R G A : Nat → Nat) (n : Nat) : ∀ k, Ok R n (run R G A n k)
  | 0 => Ok.none
  | k + 1 => Ok.rounds k Ok.none.next

section
variable {R G A : Nat → Nat} {n : Nat} {m : Nat → Int}
/-- how many inputs are matched -/
def many (n : Nat) (m : Nat → Int) : Nat := ((List.range n).filter fun i => decide (0 ≤ m i)).length
theorem many_le (n : Nat) (m : Nat → Int) : many n m ≤ n := by
  have := List.length_filter_le (fun i => decide (0 ≤ m i)) (List.range n)
  rw [List.length_range] at this
  exact this
theorem filter_more {p q : Nat → Bool} : ∀ (l : List Nat) (x : Nat), (∀ i, p i = true → q i = true) → x ∈ l → p x = false → q x = true → (l.filter p).length < (l.filter q).length
  | [], x, _, hx, _, _ => by cases hx
  | y :: l, x, h, hx, hp, hq => by
    have hle : (l.filter p).length ≤ (l.filter q).length := by
      clear hx
      induction l with
      | nil => simp
      | cons z l ih =>
        rw [List.filter_cons, List.filter_cons]
        by_cases hz : p z = true
        · rw [if_pos hz, if_pos (h z hz)]; simp; exact ih
        · rw [if_neg hz]
          split
          · simp; omega
          · exact ih
    rw [List.filter_cons, List.filter_cons]
    rcases List.mem_cons.1 hx with rfl | hx
    · rw [if_neg (by simp [hp]), if_pos hq]
      simp
      omega
    · have := filter_more l x h hx hp hq
      by_cases hz : p y = true
      · rw [if_pos hz, if_pos (h y hz)]; simp; exact this
      · rw [if_neg hz]
        split
        · simp; omega
        · exact this
/-- while one could be matched a round matches one more -/
theorem more (h : ∃ o i, o < n ∧ i < n ∧ ask R n m o i = true) : many n m < many n (next R G A n m) := by
  obtain ⟨o, i, ho, hi, ha⟩ := h
  have hg : ∃ j, j < n ∧ grant R G n m o = (j : Nat) ∧ ask R n m o j = true := by
    rcases grant_cases (R := R) (G := G) (n := n) (m := m) o with ⟨e, hno⟩ | h
    · rw [hno i hi] at ha; cases ha
    · exact h
  obtain ⟨j, hj, hgj, haj⟩ := hg
  have hacc : ∃ p, acc R G A n m j = (p : Nat) := by
    rcases acc_cases (R := R) (G := G) (A := A) (n := n) (m := m) j with ⟨e, hno⟩ | ⟨p, _, e, _⟩
    · exact absurd hgj (hno o ho)
    · exact ⟨p, e⟩
  obtain ⟨p, hp⟩ := hacc
  have hf := (ask_free haj).1
  unfold many
  refine filter_more _ j (fun i hi => ?_) (List.mem_range.2 hj) (by simp; omega) ?_
  · have hi : 0 ≤ m i := by simpa using hi
    rw [next_keeps hi]; simpa using hi
  · unfold next
    rw [hp, if_pos (by omega)]
    simp
theorem done_acc (h : ¬ ∃ o i, o < n ∧ i < n ∧ ask R n m o i = true) : ∀ i, i < n → acc R G A n m i = -1 := fun i hi => by
  rcases acc_cases (R := R) (G := G) (A := A) (n := n) (m := m) i with ⟨e, _⟩ | ⟨p, hp, e, hg⟩
  · exact e
  · exact absurd ⟨p, i, hp, hi, (grant_some hg).2⟩ h
theorem whole_rounds : ∀ (k : Nat) (m : Nat → Int), (¬ ∃ o i, o < n ∧ i < n ∧ ask R n (rounds R G A n k m) o i = true) ∨ many n m + k ≤ many n (rounds R G A n k m)
  | 0, m => .inr (Nat.le_refl _)
  | k + 1, m => by
    by_cases h : ∃ o i, o < n ∧ i < n ∧ ask R n m o i = true
    · have h1 := more (G := G) (A := A) h
      rcases whole_rounds k (next R G A n m) with h2 | h2
      · exact .inl h2
      · refine .inr ?_
        show _ ≤ many n (rounds R G A n k (next R G A n m))
        omega
    · left
      rw [rounds_none (done_acc h)]
      exact h
theorem many_all {n : Nat} {m : Nat → Int} (h : n ≤ many n m) : ∀ i, i < n → 0 ≤ m i := fun i hi => by
  rcases Int.lt_or_le (m i) 0 with h' | h'
  · exfalso
    have := filter_more (p := fun i => decide (0 ≤ m i)) (q := fun _ => true) (List.range n) i (fun _ _ => rfl) (List.mem_range.2 hi) (by simp; omega) rfl
    rw [List.filter_eq_self.2 (fun _ _ => rfl), List.length_range] at this
    unfold many at h
    omega
  · exact h'
end
/-- in as many rounds as ports none is left that could be matched -/
theorem whole (R G A : Nat → Nat) (n : Nat) (hn : 1 ≤ n) : ∀ o i, o < n → i < n → ask R n (run R G A n n) o i = false := fun o i ho hi => by
  obtain ⟨k, rfl⟩ : ∃ k, n = k + 1 := ⟨n - 1, by omega⟩
  have hdone : (¬ ∃ o i, o < k + 1 ∧ i < k + 1 ∧ ask R (k + 1) (run R G A (k + 1) (k + 1)) o i = true) ∨ k + 1 ≤ many (k + 1) (run R G A (k + 1) (k + 1)) := by
    by_cases h : ∃ o i, o < k + 1 ∧ i < k + 1 ∧ ask R (k + 1) none_ o i = true
    · have h1 := more (G := G) (A := A) h
      rcases whole_rounds (R := R) (G := runG R G A (k + 1)) (A := runA R G A (k + 1)) (n := k + 1) k (next R G A (k + 1) none_) with h2 | h2
      · exact .inl h2
      · refine .inr ?_
        show _ ≤ many (k + 1) (rounds R (runG R G A (k + 1)) (runA R G A (k + 1)) (k + 1) k (next R G A (k + 1) none_))
        omega
    · left
      show ¬ ∃ o i, o < k + 1 ∧ i < k + 1 ∧ ask R (k + 1) (rounds R (runG R G A (k + 1)) (runA R G A (k + 1)) (k + 1) k (next R G A (k + 1) none_)) o i = true
      rw [next_none (done_acc h), rounds_none (done_acc h)]
      exact h
  cases hb : ask R (k + 1) (run R G A (k + 1) (k + 1)) o i with
  | false => rfl
  | true =>
    rcases hdone with h | h
    · exact absurd ⟨o, i, ho, hi, hb⟩ h
    · have := many_all h i hi
      have := (ask_free hb).1
      omega
/-- more rounds keep what fewer matched -/
theorem run_keeps (R G A : Nat → Nat) (n : Nat) {j k i : Nat} (hj : 1 ≤ j) (hk : j ≤ k) (h : 0 ≤ run R G A n j i) : run R G A n k i = run R G A n j i := by
  obtain ⟨j, rfl⟩ : ∃ x, j = x + 1 := ⟨j - 1, by omega⟩
  obtain ⟨d, rfl⟩ : ∃ d, k = j + d + 1 := ⟨k - j - 1, by omega⟩
  show rounds _ _ _ _ (j + d) _ i = _
  rw [rounds_add]
  exact rounds_keeps d _ i h
/-- only what is asked of ports counts -/
theorem ask_congr {R S : Nat → Nat} {n : Nat} {m : Nat → Int} (h : ∀ i, i < n → R i = S i) (o i : Nat) (hi : i < n) : ask R n m o i = ask S n m o i := by
  unfold ask
  rw [h i hi]
end Go.Proofs.YtlojadodabddpaaDoor.Isl
