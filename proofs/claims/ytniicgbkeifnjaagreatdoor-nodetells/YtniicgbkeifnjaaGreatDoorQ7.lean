/-
  Contracts and plain facts that the walks lean on (IslMath, WireMath, Widen, NodeMath). Conditions: none but those that each states.
-/
import Derived.Test.YtniicgbkeifnjaaGreatDoorQ6
namespace Go.Proofs.YtniicgbkeifnjaaGreatDoor.M.Isl
set_option linter.unusedSimpArgs false
def pickP (p : Nat → Bool) (f n : Nat) : Int := match (Mask.roundOf f n).find? p with
  | some i => (i : Nat)
  | none => -1
theorem pick_eq (m f n : Nat) : Mask.pick m f n = pickP m.testBit f n := rfl
theorem round_lt {f n i : Nat} (h : i ∈ Mask.roundOf f n) : i < n := by
  obtain ⟨j, hj, rfl⟩ := List.mem_map.1 h
  have := List.mem_range.1 hj
  exact Nat.mod_lt _ (by omega)
theorem round_mem {f n i : Nat} (hi : i < n) : i ∈ Mask.roundOf f n := by
  refine List.mem_map.2 ⟨(i + (n - f % n)) % n, List.mem_range.2 (Nat.mod_lt _ (by omega)), ?_⟩
  have hf : f % n < n := Nat.mod_lt _ (by omega)
  rw [Nat.add_mod, Nat.mod_mod, ← Nat.add_mod, show f + (i + (n - f % n)) = i + n + (f - f % n) by have := Nat.mod_le f n; omega]
  rw [Nat.add_mod, show (f - f % n) % n = 0 by
    have := Nat.div_add_mod f n
    rw [show f - f % n = n * (f / n) by omega]
    exact Nat.mul_mod_right _ _, Nat.add_zero, Nat.mod_mod, Nat.add_mod_right, Nat.mod_eq_of_lt hi]
theorem find_congr {p q : Nat → Bool} : ∀ (l : List Nat), (∀ i ∈ l, p i = q i) → l.find? p = l.find? q
  | [], _ => rfl
  | x :: l, h => by
    rw [List.find?_cons, List.find?_cons, h x (by simp), find_congr l (fun i hi => h i (by simp [hi]))]
theorem pickP_congr {p q : Nat → Bool} {f n : Nat} (h : ∀ i, i < n → p i = q i) : pickP p f n = pickP q f n := by
  unfold pickP
  rw [find_congr _ (fun i hi => h i (round_lt hi))]
theorem pickP_cases (p : Nat → Bool) (f n : Nat) : (pickP p f n = -1 ∧ ∀ i, i < n → p i = false) ∨ ∃ i, i < n ∧ pickP p f n = (i : Nat) ∧ p i = true := by
  unfold pickP
  cases h : (Mask.roundOf f n).find? p with
  | none =>
    refine .inl ⟨rfl, fun i hi => ?_⟩
    have := List.find?_eq_none.1 h i (round_mem hi)
    simpa using this
  | some i => exact .inr ⟨i, round_lt (List.mem_of_find?_eq_some h), rfl, List.find?_some h⟩
def none_ : Nat → Int := fun _ => -1
def taken (n : Nat) (m : Nat → Int) (o : Nat) : Bool := (List.range n).any fun i => decide (m i = (o : Nat))
theorem taken_iff {n : Nat} {m : Nat → Int} {o : Nat} : taken n m o = true ↔ ∃ i, i < n ∧ m i = (o : Nat) := by
  simp [taken, List.any_eq_true]
section
variable (R G A : Nat → Nat) (n : Nat) (m : Nat → Int)
def ask (o i : Nat) : Bool := decide (m i < 0) && (R i).testBit o && !taken n m o
def grant (o : Nat) : Int := pickP (ask R n m o) (G o) n
def acc (i : Nat) : Int := pickP (fun o => decide (grant R G n m o = (i : Nat))) (A i) n
def next : Nat → Int := fun i => if 0 ≤ acc R G A n m i then acc R G A n m i else m i
def movG : Nat → Nat := fun o => if 0 ≤ grant R G n m o ∧ acc R G A n m (grant R G n m o).toNat = (o : Nat) then ((grant R G n m o).toNat + 1) % n else G o
def movA : Nat → Nat := fun i => if 0 ≤ acc R G A n m i then ((acc R G A n m i).toNat + 1) % n else A i
end
def rounds (R G A : Nat → Nat) (n : Nat) : Nat → (Nat → Int) → (Nat → Int)
  | 0, m => m
  | k + 1, m => rounds R G A n k (next R G A n m)
theorem rounds_add (R G A : Nat → Nat) (n : Nat) : ∀ (j k : Nat) (m : Nat → Int), rounds R G A n (j + k) m = rounds R G A n k (rounds R G A n j m)
  | 0, k, m => by rw [Nat.zero_add]; rfl
  | j + 1, k, m => by rw [Nat.add_right_comm]; exact rounds_add R G A n j k _
theorem rounds_snoc (R G A : Nat → Nat) (n k : Nat) (m : Nat → Int) : rounds R G A n (k + 1) m = next R G A n (rounds R G A n k m) := rounds_add R G A n k 1 m
def runG (R G A : Nat → Nat) (n : Nat) : Nat → Nat := movG R G A n none_
def runA (R G A : Nat → Nat) (n : Nat) : Nat → Nat := movA R G A n none_
def run (R G A : Nat → Nat) (n : Nat) : Nat → (Nat → Int)
  | 0 => none_
  | k + 1 => rounds R (runG R G A n) (runA R G A n) n k (next R G A n none_)
theorem run_succ (R G A : Nat → Nat) (n k : Nat) (h : 1 ≤ k) : run R G A n (k + 1) = next R (runG R G A n) (runA R G A n) n (run R G A n k) := by
  obtain ⟨j, rfl⟩ : ∃ j, k = j + 1 := ⟨k - 1, by omega⟩
  exact rounds_snoc R (runG R G A n) (runA R G A n) n j _
section
variable {R G A : Nat → Nat} {n : Nat} {m : Nat → Int}
theorem ask_free {o i : Nat} (h : ask R n m o i = true) : m i < 0 ∧ (R i).testBit o = true ∧ taken n m o = false := by
  simp [ask] at h
  exact ⟨h.1.1, h.1.2, h.2⟩
theorem grant_cases (o : Nat) : (grant R G n m o = -1 ∧ ∀ i, i < n → ask R n m o i = false) ∨ ∃ i, i < n ∧ grant R G n m o = (i : Nat) ∧ ask R n m o i = true := pickP_cases _ _ _
theorem grant_some {o i : Nat} (h : grant R G n m o = (i : Nat)) : i < n ∧ ask R n m o i = true := by
  rcases grant_cases (R := R) (G := G) (n := n) (m := m) o with ⟨e, _⟩ | ⟨j, hj, e, ha⟩
  · omega
  · obtain rfl : i = j := by omega
    exact ⟨hj, ha⟩
theorem acc_cases (i : Nat) : (acc R G A n m i = -1 ∧ ∀ o, o < n → grant R G n m o ≠ (i : Nat)) ∨ ∃ o, o < n ∧ acc R G A n m i = (o : Nat) ∧ grant R G n m o = (i : Nat) := by
  rcases pickP_cases (fun o => decide (grant R G n m o = (i : Nat))) (A i) n with ⟨e, h⟩ | ⟨o, ho, e, h⟩
  · exact .inl ⟨e, fun o ho => by simpa using h o ho⟩
  · exact .inr ⟨o, ho, e, by simpa using h⟩
theorem acc_some {i o : Nat} (h : acc R G A n m i = (o : Nat)) : o < n ∧ i < n ∧ grant R G n m o = (i : Nat) ∧ ask R n m o i = true := by
  rcases acc_cases (R := R) (G := G) (A := A) (n := n) (m := m) i with ⟨e, _⟩ | ⟨p, hp, e, hg⟩
  · omega
  · obtain rfl : o = p := by omega
    have := grant_some hg
    exact ⟨hp, this.1, hg, this.2⟩
theorem acc_taken {i : Nat} (h : 0 ≤ m i) : acc R G A n m i = -1 := by
  rcases acc_cases (R := R) (G := G) (A := A) (n := n) (m := m) i with ⟨e, _⟩ | ⟨p, hp, e, hg⟩
  · exact e
  · have := (ask_free (grant_some hg).2).1
    omega
theorem acc_out {i : Nat} (h : n ≤ i) : acc R G A n m i = -1 := by
  rcases acc_cases (R := R) (G := G) (A := A) (n := n) (m := m) i with ⟨e, _⟩ | ⟨p, hp, e, hg⟩
  · exact e
  · have := (grant_some hg).1
    omega
theorem next_keeps {i : Nat} (h : 0 ≤ m i) : next R G A n m i = m i := by
  unfold next
  rw [acc_taken h, if_neg (by omega)]
theorem next_none (h : ∀ i, i < n → acc R G A n m i = -1) : next R G A n m = m := by
  funext i
  unfold next
  rcases Nat.lt_or_ge i n with hi | hi
  · rw [h i hi, if_neg (by omega)]
  · rw [acc_out hi, if_neg (by omega)]
theorem rounds_none (h : ∀ i, i < n → acc R G A n m i = -1) : ∀ k, rounds R G A n k m = m
  | 0 => rfl
  | k + 1 => by rw [rounds, next_none h, rounds_none h k]
theorem movG_none (h : ∀ i, i < n → acc R G A n m i = -1) : movG R G A n m = G := by
  funext o
  unfold movG
  rw [if_neg]
  rintro ⟨h0, e⟩
  obtain ⟨i, hi⟩ := Int.eq_ofNat_of_zero_le h0
  rw [hi] at e
  simp at e
  have := acc_some e
  rw [h i this.2.1] at e
  omega
theorem movA_none (h : ∀ i, i < n → acc R G A n m i = -1) : movA R G A n m = A := by
  funext i
  unfold movA
  rcases Nat.lt_or_ge i n with hi | hi
  · rw [h i hi, if_neg (by omega)]
  · rw [acc_out hi, if_neg (by omega)]
theorem movG_at {i o : Nat} (h : acc R G A n m i = (o : Nat)) : movG R G A n m o = (i + 1) % n := by
  have := acc_some h
  unfold movG
  rw [this.2.2.1, if_pos]
  · simp
  · simp [h]
theorem movG_no {o : Nat} (h : ∀ i, i < n → acc R G A n m i ≠ (o : Nat)) : movG R G A n m o = G o := by
  unfold movG
  rw [if_neg]
  rintro ⟨h0, e⟩
  obtain ⟨i, hi⟩ := Int.eq_ofNat_of_zero_le h0
  rw [hi] at e
  simp at e
  exact h i (acc_some e).2.1 e
theorem movA_at {i o : Nat} (h : acc R G A n m i = (o : Nat)) : movA R G A n m i = (o + 1) % n := by
  unfold movA
  rw [h, if_pos (by omega)]
  simp
theorem movA_no {i : Nat} (h : acc R G A n m i = -1) : movA R G A n m i = A i := by
  unfold movA
  rw [h, if_neg (by omega)]
structure Ok (R : Nat → Nat) (n : Nat) (m : Nat → Int) : Prop where
  lo : ∀ i, -1 ≤ m i
  hi : ∀ i, m i < (n : Nat) ∨ m i = -1
  asks : ∀ i o : Nat, m i = (o : Nat) → i < n ∧ o < n ∧ (R i).testBit o = true
  one : ∀ i j o : Nat, m i = (o : Nat) → m j = (o : Nat) → i = j
theorem Ok.none : Ok R n none_ := ⟨fun _ => by simp [none_], fun _ => .inr rfl, fun i o h => by simp [none_] at h, fun i j o h => by simp [none_] at h⟩
theorem next_cases (i : Nat) : (next R G A n m i = m i ∧ acc R G A n m i = -1) ∨ ∃ o, next R G A n m i = (o : Nat) ∧ acc R G A n m i = (o : Nat) := by
  unfold next
  rcases acc_cases (R := R) (G := G) (A := A) (n := n) (m := m) i with ⟨e, _⟩ | ⟨p, hp, e, hg⟩
  · rw [e, if_neg (by omega)]; exact .inl ⟨rfl, rfl⟩
  · rw [e, if_pos (by omega)]; exact .inr ⟨p, rfl, rfl⟩
theorem Ok.next (h : Ok R n m) : Ok R n (next R G A n m) := by
  refine ⟨fun i => ?_, fun i => ?_, fun i o e => ?_, fun i j o e1 e2 => ?_⟩
  · rcases next_cases (R := R) (G := G) (A := A) (n := n) (m := m) i with ⟨e, _⟩ | ⟨p, e, _⟩
    · rw [e]; exact h.lo i
    · rw [e]; omega
  · rcases next_cases (R := R) (G := G) (A := A) (n := n) (m := m) i with ⟨e, _⟩ | ⟨p, e, ea⟩
    · rw [e]; exact h.hi i
    · rw [e]; have := (acc_some ea).1; omega
  · rcases next_cases (R := R) (G := G) (A := A) (n := n) (m := m) i with ⟨e', _⟩ | ⟨p, e', ea⟩
    · rw [e'] at e; exact h.asks i o e
    · rw [e'] at e
      obtain rfl : p = o := by omega
      have := acc_some ea
      exact ⟨this.2.1, this.1, (ask_free this.2.2.2).2.1⟩
  · have key : ∀ (i j o : Nat), m i = (o : Nat) → acc R G A n m j = (o : Nat) → False := fun i j o e1 e2 => by
      have h1 := acc_some e2
      have h2 := (ask_free h1.2.2.2).2.2
      have h3 : taken n m o = true := taken_iff.2 ⟨i, (h.asks i o e1).1, e1⟩
      rw [h3] at h2; cases h2
    rcases next_cases (R := R) (G := G) (A := A) (n := n) (m := m) i with ⟨f1, _⟩ | ⟨p, f1, a1⟩ <;>
      rcases next_cases (R := R) (G := G) (A := A) (n := n) (m := m) j with ⟨f2, _⟩ | ⟨q, f2, a2⟩
    · rw [f1] at e1; rw [f2] at e2; exact h.one i j o e1 e2
    · rw [f1] at e1; rw [f2] at e2
      obtain rfl : q = o := by omega
      exact (key i j q e1 a2).elim
    · rw [f1] at e1; rw [f2] at e2
      obtain rfl : p = o := by omega
      exact (key j i p e2 a1).elim
    · rw [f1] at e1; rw [f2] at e2
      obtain rfl : p = o := by omega
      obtain rfl : q = p := by omega
      have h1 := (acc_some a1).2.2.1
      have h2 := (acc_some a2).2.2.1
      omega
theorem Ok.rounds : ∀ (k : Nat) {m : Nat → Int}, Ok R n m → Ok R n (rounds R G A n k m)
  | 0, _, h => h
  | k + 1, _, h => Ok.rounds k h.next
end
theorem Ok.run (R G A : Nat → Nat) (n : Nat) : ∀ k, Ok R n (run R G A n k)
  | 0 => Ok.none
  | k + 1 => Ok.rounds k Ok.none.next
section
variable {R G A : Nat → Nat} {n : Nat} {m : Nat → Int}
def many (n : Nat) (m : Nat → Int) : Nat := ((List.range n).filter fun i => decide (0 ≤ m i)).length
theorem filter_more {p q : Nat → Bool} : ∀ (l : List Nat) (x : Nat), (∀ i, p i = true → q i = true) → x ∈ l → p x = false → q x = true → (l.filter p).length < (l.filter q).length
  | [], x, _, hx, _, _ => by cases hx
  | y :: l, x, h, hx, hp, hq => by
    have hle : (l.filter p).length ≤ (l.filter q).length := by
      clear hx
      induction l with
      | nil => simp
      | cons z l ih =>
        rw [List.filter_cons, List.filter_cons]
        by_cases hz : p z = true
        · rw [if_pos hz, if_pos (h z hz)]; simp; exact ih
        · rw [if_neg hz]
          split
          · simp; omega
          · exact ih
    rw [List.filter_cons, List.filter_cons]
    rcases List.mem_cons.1 hx with rfl | hx
    · rw [if_neg (by simp [hp]), if_pos hq]
      simp
      omega
    · have := filter_more l x h hx hp hq
      by_cases hz : p y = true
      · rw [if_pos hz, if_pos (h y hz)]; simp; exact this
      · rw [if_neg hz]
        split
        · simp; omega
        · exact this
theorem more (h : ∃ o i, o < n ∧ i < n ∧ ask R n m o i = true) : many n m < many n (next R G A n m) := by
  obtain ⟨o, i, ho, hi, ha⟩ := h
  have hg : ∃ j, j < n ∧ grant R G n m o = (j : Nat) ∧ ask R n m o j = true := by
    rcases grant_cases (R := R) (G := G) (n := n) (m := m) o with ⟨e, hno⟩ | h
    · rw [hno i hi] at ha; cases ha
    · exact h
  obtain ⟨j, hj, hgj, haj⟩ := hg
  have hacc : ∃ p, acc R G A n m j = (p : Nat) := by
    rcases acc_cases (R := R) (G := G) (A := A) (n := n) (m := m) j with ⟨e, hno⟩ | ⟨p, _, e, _⟩
    · exact absurd hgj (hno o ho)
    · exact ⟨p, e⟩
  obtain ⟨p, hp⟩ := hacc
  have hf := (ask_free haj).1
  unfold many
  refine filter_more _ j (fun i hi => ?_) (List.mem_range.2 hj) (by simp; omega) ?_
  · have hi : 0 ≤ m i := by simpa using hi
    rw [next_keeps hi]; simpa using hi
  · unfold next
    rw [hp, if_pos (by omega)]
    simp
end
end Go.Proofs.YtniicgbkeifnjaaGreatDoor.M.Isl
namespace Go.Proofs.YtniicgbkeifnjaaGreatDoor.Wire
open Crc
structure Fr where
  k : Nat
  l : Nat
  s : Nat
  a : Nat
  b : Nat
  x : Nat
def Fr.ok (f : Fr) : Prop := f.k < 256 ∧ f.l < 256 ∧ f.s < 65536 ∧ f.a < 256 ∧ f.b < 256 ∧ f.x < 4294967296
def Fr.sound (f : Fr) : Bool := decide (f.l < 3 ∧ (f.k = 1 ∧ f.a < 6 ∧ f.b < 6 ∧ f.a ≠ f.b ∨ (f.k = 2 ∨ f.k = 3) ∧ f.a = 0 ∧ f.b = 0 ∧ f.x = 0))
theorem Fr.sound_iff (f : Fr) : f.sound = true ↔ (f.l < 3 ∧ (f.k = 1 ∧ f.a < 6 ∧ f.b < 6 ∧ f.a ≠ f.b ∨ (f.k = 2 ∨ f.k = 3) ∧ f.a = 0 ∧ f.b = 0 ∧ f.x = 0)) := by unfold Fr.sound; simp only [decide_eq_true_eq]
def zero : Fr := ⟨0, 0, 0, 0, 0, 0⟩
def be (n : Nat) : List Nat := [n / 256, n % 256]
def be4 (n : Nat) : List Nat := [n / 16777216, n / 65536 % 256, n / 256 % 256, n % 256]
def Fr.tail (f : Fr) : List Nat := if f.k = 1 then [f.a, f.b] ++ be4 f.x else []
def Fr.fields (f : Fr) : List Nat := [f.k, f.l, f.s / 256, f.s % 256] ++ f.tail
def withCheck (l : List Nat) : List Nat := l ++ be (crc l)
def Fr.enc (f : Fr) : List Nat := withCheck f.fields
def sizeOf (k : Nat) : Nat := if k = 1 then 12 else if k = 2 ∨ k = 3 then 6 else 0
def rd (c : Bool) (l : List Nat) : Fr :=
  if c = true then ⟨l.getD 0 0, l.getD 1 0, l.getD 2 0 * 256 + l.getD 3 0, l.getD 4 0, l.getD 5 0, l.getD 6 0 * 16777216 + l.getD 7 0 * 65536 + l.getD 8 0 * 256 + l.getD 9 0⟩
  else ⟨l.getD 0 0, l.getD 1 0, l.getD 2 0 * 256 + l.getD 3 0, 0, 0, 0⟩
def fits (l : List Nat) : Bool := decide (l.length ≠ 0 ∧ l.length = sizeOf (l.getD 0 0))
def checked (l : List Nat) : Bool := decide (withCheck (l.take (l.length - 2)) = l)
def back (l : List Nat) : Fr := rd (decide (l.getD 0 0 = 1)) (l.take (l.length - 2))
def dec (l : List Nat) : Option Fr := if (fits l && checked l && (back l).sound) = true then some (back l) else none
def back2 (l : List Nat) : Fr := rd (decide (l.getD 0 0 = 1 ∧ 12 ≤ l.length)) l
def dec2 (l : List Nat) : Option Fr := if 6 ≤ l.length ∧ (back2 l).sound = true ∧ (back2 l).enc = l then some (back2 l) else none
theorem be_length (n : Nat) : (be n).length = 2 := rfl
theorem be_oct {n : Nat} (h : n < 65536) : Oct (be n) := by
  intro y hy
  simp only [be, List.mem_cons, List.not_mem_nil, or_false] at hy
  omega
theorem be4_oct {n : Nat} (h : n < 4294967296) : Oct (be4 n) := by
  intro y hy
  simp only [be4, List.mem_cons, List.not_mem_nil, or_false] at hy
  omega
theorem oct_append {l m : List Nat} (h : Oct l) (k : Oct m) : Oct (l ++ m) := fun y hy => by
  rcases List.mem_append.1 hy with hy | hy
  · exact h y hy
  · exact k y hy
theorem fields_oct {f : Fr} (h : f.ok) : Oct f.fields := by
  obtain ⟨h1, h2, h3, h4, h5, h6⟩ := h
  unfold Fr.fields
  refine oct_append ?_ ?_
  · intro y hy
    simp only [List.mem_cons, List.not_mem_nil, or_false] at hy
    omega
  · unfold Fr.tail
    split
    · refine oct_append ?_ (be4_oct h6)
      intro y hy
      simp only [List.mem_cons, List.not_mem_nil, or_false] at hy
      omega
    · intro y hy; cases hy
theorem fields_length (f : Fr) : f.fields.length = if f.k = 1 then 10 else 4 := by
  unfold Fr.fields Fr.tail
  split <;> rfl
theorem withCheck_length (l : List Nat) : (withCheck l).length = l.length + 2 := by unfold withCheck; rw [List.length_append, be_length]
theorem withCheck_oct {l : List Nat} (h : Oct l) : Oct (withCheck l) := oct_append h (be_oct (crc_lt h))
theorem enc_oct {f : Fr} (h : f.ok) : Oct f.enc := withCheck_oct (fields_oct h)
theorem enc_length (f : Fr) : f.enc.length = if f.k = 1 then 12 else 6 := by
  unfold Fr.enc
  rw [withCheck_length, fields_length]
  split <;> rfl
theorem enc_long (f : Fr) : 6 ≤ f.enc.length ∧ f.enc.length ≤ 12 := by
  rw [enc_length]; split <;> omega
theorem sound_size {f : Fr} (h : f.sound = true) : sizeOf f.k = if f.k = 1 then 12 else 6 := by
  have := (f.sound_iff).1 h
  unfold sizeOf
  by_cases h1 : f.k = 1
  · rw [if_pos h1, if_pos h1]
  · rw [if_neg h1, if_neg h1, if_pos (by omega)]
theorem list6 {l : List Nat} (h : l.length = 6) : ∃ c0 c1 c2 c3 c4 c5, l = [c0, c1, c2, c3, c4, c5] := by
  match l, h with
  | [c0, c1, c2, c3, c4, c5], _ => exact ⟨_, _, _, _, _, _, rfl⟩
theorem list12 {l : List Nat} (h : l.length = 12) : ∃ c0 c1 c2 c3 c4 c5 c6 c7 c8 c9 d0 d1, l = [c0, c1, c2, c3, c4, c5, c6, c7, c8, c9, d0, d1] := by
  match l, h with
  | [c0, c1, c2, c3, c4, c5, c6, c7, c8, c9, d0, d1], _ => exact ⟨_, _, _, _, _, _, _, _, _, _, _, _, rfl⟩
theorem take_check (l : List Nat) : (withCheck l).take ((withCheck l).length - 2) = l := by
  rw [withCheck_length, Nat.add_sub_cancel]
  unfold withCheck
  exact List.take_left
theorem enc_getD (f : Fr) (i : Nat) (h : i < f.fields.length) : f.enc.getD i 0 = f.fields.getD i 0 := by
  unfold Fr.enc withCheck
  rw [List.getD_eq_getElem?_getD, List.getElem?_append_left h, List.getD_eq_getElem?_getD]
theorem enc_first (f : Fr) : f.enc.getD 0 0 = f.k := by
  rw [enc_getD f 0 (by rw [fields_length]; split <;> omega)]; rfl
theorem rd_fields {f : Fr} (h : f.ok) (hs : f.sound = true) : rd (decide (f.k = 1)) f.fields = f := by
  have hs := (f.sound_iff).1 hs
  obtain ⟨h1, h2, h3, h4, h5, h6⟩ := h
  obtain ⟨k, l, s, a, b, x⟩ := f
  simp only at *
  by_cases hk : k = 1
  · subst hk
    simp only [rd, Fr.fields, Fr.tail, be4, decide_true, if_true, List.cons_append, List.nil_append, List.getD_cons_zero, List.getD_cons_succ, Fr.mk.injEq, true_and]
    omega
  · simp only [rd, Fr.fields, Fr.tail, hk, decide_false, if_false, List.append_nil, List.getD_cons_zero, List.getD_cons_succ, Fr.mk.injEq, true_and, Bool.false_eq_true]
    omega
theorem back_enc {f : Fr} (h : f.ok) (hs : f.sound = true) : back f.enc = f := by
  unfold back
  rw [enc_first, show f.enc = withCheck f.fields from rfl, take_check]
  exact rd_fields h hs
theorem fits_enc {f : Fr} (hs : f.sound = true) : fits f.enc = true := by
  have := enc_long f
  unfold fits
  rw [decide_eq_true_eq, enc_first, sound_size hs, enc_length]
  exact ⟨by split <;> omega, rfl⟩
theorem checked_enc (f : Fr) : checked f.enc = true := by
  unfold checked Fr.enc
  rw [take_check, decide_eq_true_eq]
theorem dec_enc {f : Fr} (h : f.ok) (hs : f.sound = true) : dec f.enc = some f := by
  unfold dec
  rw [back_enc h hs, fits_enc hs, checked_enc, hs]
  rfl
theorem rd_ok {c : Bool} {l : List Nat} (o : Oct l) : (rd c l).ok := by
  have g : ∀ i, l.getD i 0 < 256 := fun i => by
    rw [List.getD_eq_getElem?_getD]
    by_cases h : i < l.length
    · rw [List.getElem?_eq_getElem h]; exact o _ (List.getElem_mem h)
    · rw [List.getElem?_eq_none (by omega)]; simp
  have g0 := g 0; have g1 := g 1; have g2 := g 2; have g3 := g 3; have g4 := g 4; have g5 := g 5; have g6 := g 6; have g7 := g 7; have g8 := g 8; have g9 := g 9
  unfold rd Fr.ok
  split <;> simp only <;> omega
theorem oct_take {l : List Nat} (o : Oct l) (n : Nat) : Oct (l.take n) := fun y hy => o y (List.mem_of_mem_take hy)
theorem back_ok {l : List Nat} (o : Oct l) : (back l).ok := rd_ok (oct_take o _)
theorem back2_ok {l : List Nat} (o : Oct l) : (back2 l).ok := rd_ok o
theorem fields_back {l : List Nat} (o : Oct l) (h : fits l = true) : (back l).fields = l.take (l.length - 2) := by
  unfold fits at h
  rw [decide_eq_true_eq] at h
  obtain ⟨h0, h1⟩ := h
  unfold sizeOf at h1
  by_cases hk : l.getD 0 0 = 1
  · rw [if_pos hk] at h1
    obtain ⟨c0, c1, c2, c3, c4, c5, c6, c7, c8, c9, d0, d1, rfl⟩ := list12 h1
    have o' : ∀ y ∈ [c0, c1, c2, c3, c4, c5, c6, c7, c8, c9, d0, d1], y < 256 := o
    simp only [List.mem_cons, List.not_mem_nil, or_false, forall_eq_or_imp, forall_eq] at o'
    obtain ⟨a0, a1, a2, a3, a4, a5, a6, a7, a8, a9, a10, a11⟩ := o'
    simp only [List.getD_cons_zero] at hk
    subst hk
    simp only [back, rd, List.getD_cons_zero, List.getD_cons_succ, List.length_cons, List.length_nil, Nat.reduceAdd, Nat.reduceSub, List.take_succ_cons, List.take_zero, decide_true, if_true, Fr.fields, Fr.tail, be4, List.cons_append, List.nil_append, List.cons.injEq, true_and, and_true]
    omega
  · rw [if_neg hk] at h1
    by_cases h2 : l.getD 0 0 = 2 ∨ l.getD 0 0 = 3
    · rw [if_pos h2] at h1
      obtain ⟨c0, c1, c2, c3, c4, c5, rfl⟩ := list6 h1
      have o' : ∀ y ∈ [c0, c1, c2, c3, c4, c5], y < 256 := o
      simp only [List.mem_cons, List.not_mem_nil, or_false, forall_eq_or_imp, forall_eq] at o'
      obtain ⟨a0, a1, a2, a3, a4, a5⟩ := o'
      simp only [List.getD_cons_zero] at hk
      simp only [back, rd, List.getD_cons_zero, List.getD_cons_succ, List.length_cons, List.length_nil, Nat.reduceAdd, Nat.reduceSub, List.take_succ_cons, List.take_zero, hk, decide_false, if_false, Bool.false_eq_true, Fr.fields, Fr.tail, List.append_nil, List.cons.injEq, true_and, and_true]
      omega
    · rw [if_neg h2] at h1; omega
theorem dec_some {l : List Nat} {f : Fr} (o : Oct l) (h : dec l = some f) : f.ok ∧ f.sound = true ∧ f.enc = l := by
  unfold dec at h
  by_cases hc : (fits l && checked l && (back l).sound) = true
  · rw [if_pos hc] at h
    simp only [Bool.and_eq_true] at hc
    obtain ⟨⟨h1, h2⟩, h3⟩ := hc
    cases h
    refine ⟨back_ok o, h3, ?_⟩
    unfold Fr.enc
    rw [fields_back o h1]
    unfold checked at h2
    exact of_decide_eq_true h2
  · rw [if_neg hc] at h; cases h
theorem dec_iff {l : List Nat} {f : Fr} (o : Oct l) (hf : f.ok) : dec l = some f ↔ f.sound = true ∧ f.enc = l :=
  ⟨fun h => (dec_some o h).2, fun ⟨h1, h2⟩ => h2 ▸ dec_enc hf h1⟩
theorem back2_enc {f : Fr} (h : f.ok) (hs : f.sound = true) : back2 f.enc = f := by
  have e : ∀ c : Bool, (c = true → f.k = 1) → rd c f.enc = rd c f.fields := by
    intro c hc
    have hl := fields_length f
    by_cases hk : c = true
    · have h1 := hc hk
      rw [if_pos h1] at hl
      unfold rd
      rw [if_pos hk, if_pos hk, enc_getD f 0 (by omega), enc_getD f 1 (by omega), enc_getD f 2 (by omega), enc_getD f 3 (by omega), enc_getD f 4 (by omega), enc_getD f 5 (by omega), enc_getD f 6 (by omega), enc_getD f 7 (by omega), enc_getD f 8 (by omega), enc_getD f 9 (by omega)]
    · have h4 : 4 ≤ f.fields.length := by rw [hl]; split <;> omega
      unfold rd
      rw [if_neg hk, if_neg hk, enc_getD f 0 (by omega), enc_getD f 1 (by omega), enc_getD f 2 (by omega), enc_getD f 3 (by omega)]
  unfold back2
  have hd : decide (f.enc.getD 0 0 = 1 ∧ 12 ≤ f.enc.length) = decide (f.k = 1) := by
    rw [enc_first, enc_length]
    by_cases hk : f.k = 1
    · simp [hk]
    · simp [hk]
  rw [hd, e _ (fun h => of_decide_eq_true h)]
  exact rd_fields h hs
theorem dec2_eq {l : List Nat} (o : Oct l) : dec2 l = dec l := by
  unfold dec2
  by_cases h : 6 ≤ l.length ∧ (back2 l).sound = true ∧ (back2 l).enc = l
  · rw [if_pos h]
    exact ((dec_iff o (back2_ok o)).2 h.2).symm
  · rw [if_neg h]
    cases hd : dec l with
    | none => rfl
    | some f =>
      obtain ⟨h1, h2, h3⟩ := dec_some o hd
      have hb := back2_enc h1 h2
      rw [h3] at hb
      exact absurd ⟨by rw [← h3]; exact (enc_long f).1, by rw [hb]; exact h2, by rw [hb]; exact h3⟩ h
theorem dec_length {l : List Nat} (o : Oct l) (h : l.length ≠ 6) (h2 : l.length ≠ 12) : dec l = none := by
  cases hd : dec l with
  | none => rfl
  | some f =>
    obtain ⟨_, _, h3⟩ := dec_some o hd
    have := enc_length f
    rw [h3] at this
    split at this <;> omega
theorem dec_nil : dec [] = none := rfl
theorem sized {l : List Nat} (h : fits l = true) : l.length = 6 ∧ l.getD 0 0 ≠ 1 ∨ l.length = 12 ∧ l.getD 0 0 = 1 := by
  unfold fits at h
  rw [decide_eq_true_eq] at h
  obtain ⟨h0, h1⟩ := h
  unfold sizeOf at h1
  by_cases hk : l.getD 0 0 = 1
  · rw [if_pos hk] at h1; exact .inr ⟨h1, hk⟩
  · rw [if_neg hk] at h1
    split at h1
    · exact .inl ⟨h1, hk⟩
    · omega
end Go.Proofs.YtniicgbkeifnjaaGreatDoor.Wire
namespace Go.Proofs.YtniicgbkeifnjaaGreatDoor
open Go.ChangeShapes Go.WideShapes Go.ChangeAt Go.RowKit
set_option linter.unusedVariables false
set_option maxRecDepth 100000
def widI (a b : Int) : Int := ((a - 32768) % 18446744073709551616 + (b - (a - 32768)) % 65536) % 18446744073709551616
theorem wid_eq (a b : Int) : IntKind.u64.wrap
              (IntKind.u64.wrap (a - 32768) +
                IntKind.u64.wrap (IntKind.u16.wrap (IntKind.u64.wrap (b - IntKind.u64.wrap (a - 32768))))) = widI a b := by
  simp only [IntKind.wrap_u64, IntKind.wrap_u16, widI]; omega
set_option maxHeartbeats 400000 in
theorem widen_any (a b : Int) (a0 : 0 ≤ a) (a1 : a ≤ 18446744073709551615) (b0 : 0 ≤ b) (b1 : b ≤ 65535) (w : World) :
    Calls Tryz.prog 136 #[.int .u64 a, .int .u16 b] w fun e w' => e = .returned (.int .u64 (widI a b)) ∧ w' = w := by
  go_enter Tryz.func136, Tryz.ntmps136
  go_wp2
  go_ret
  exact ⟨ret_int (wid_eq a b), rfl⟩
theorem widI_range (a b : Int) : 0 ≤ widI a b ∧ widI a b ≤ 18446744073709551615 := by unfold widI; omega
end Go.Proofs.YtniicgbkeifnjaaGreatDoor
namespace Go.Proofs.YtniicgbkeifnjaaGreatDoor.Nd
open Go.ChangeShapes Go.WideShapes Go.ChangeAt Go.RowKit
set_option linter.unusedVariables false
set_option maxRecDepth 100000
structure Cfg where
  v : Nat
  N : Nat
  L : Nat
  room : Nat
  q : Nat
  rounds : Nat
  every : Nat
  bs : List Int
  way : Nat → Nat
  wt : Nat → Int
def Cfg.P (c : Cfg) : Nat := c.bs.length + 1
def Cfg.n (c : Cfg) : Nat := c.P * c.L * c.room
def Cfg.dst (c : Cfg) (i : Nat) : Int := c.bs.getD (i - 1) 0
structure St where
  hL : List Pk
  hG : List Pk
  t : Nat
  Q : K.Pl → List Pk
  s : Nat → Nat → Int × Int
  r : Nat → Nat → Int × Int
  g : Nat → Nat
  a : Nat → Nat
  wl : Nat → Nat → Int
  wf : Nat → Nat
  k : Nat
def up2 {α : Type} (f : Nat → Nat → α) (i j : Nat) (v : α) : Nat → Nat → α := fun x y => if x = i ∧ y = j then v else f x y
def up1 {α : Type} (f : Nat → α) (i : Nat) (v : α) : Nat → α := fun x => if x = i then v else f x
theorem up2_same {α : Type} (f : Nat → Nat → α) (i j : Nat) (v : α) : up2 f i j v i j = v := if_pos ⟨rfl, rfl⟩
theorem up2_not {α : Type} (f : Nat → Nat → α) {i j x y : Nat} (v : α) (h : ¬ (x = i ∧ y = j)) : up2 f i j v x y = f x y := if_neg h
theorem up2_self {α : Type} (f : Nat → Nat → α) (i j : Nat) : up2 f i j (f i j) = f := by
  funext x y
  by_cases h : x = i ∧ y = j
  · rw [h.1, h.2, up2_same]
  · rw [up2_not _ _ h]
theorem up1_same {α : Type} (f : Nat → α) (i : Nat) (v : α) : up1 f i v i = v := if_pos rfl
theorem up1_not {α : Type} (f : Nat → α) {i x : Nat} (v : α) (h : x ≠ i) : up1 f i v x = f x := if_neg h
def AnyB (e : Ending) : Prop := ∃ b, e = .returned (.bool b)
def AnyT (z : Int) (e : Ending) : Prop := ∃ b, e = .returned (.tuple #[.int .u64 z, .bool b])
def sHear (p : Int × Int) (x : Int) : Int × Int := if p.2 < widI p.2 x ∧ widI p.2 x ≤ p.1 + 8 then (p.1, widI p.2 x) else p
def rHear (room : Nat) (p : Int × Int) (x : Int) : Int × Int := if p.1 < widI p.1 x ∧ widI p.1 x ≤ p.1 + ((room : Int) - p.2) then (widI p.1 x, p.2) else p
def rComeE (room : Nat) (p : Int × Int) (x : Int) : Int := if widI p.1 x < p.1 then 60 else if p.1 + ((room : Int) - p.2) ≤ widI p.1 x then 61 else 0
def rCome (room : Nat) (p : Int × Int) (x : Int) : Int × Int := if rComeE room p x = 0 then (widI p.1 x + 1, p.2 + 1) else p
def rFree (p : Int × Int) : Int × Int := if p.2 = 0 then p else (p.1, p.2 - 1)
def sNext (p : Int × Int) : Int × Int := if p.2 = p.1 then p else (p.1 + 1, p.2)
def sNum (p : Int × Int) : Int := if p.2 = p.1 then 0 else p.1
def injE (c : Cfg) (s : St) (x : Pk) : Int := if x.s = (c.v : Int) ∧ 0 ≤ x.d ∧ x.d < (c.N : Int) ∧ x.d ≠ (c.v : Int) then K.Hst.putE c.L c.q s.hL x else 1
def inj (c : Cfg) (s : St) (x : Pk) : St := if x.s = (c.v : Int) ∧ 0 ≤ x.d ∧ x.d < (c.N : Int) ∧ x.d ≠ (c.v : Int) then { s with hL := K.Hst.putL c.L c.q s.hL x } else s
def push (c : Cfg) (s : St) (i o l : Nat) (x : Pk) : St :=
  { s with t := K.pushT (K.takes c.P c.L c.n s.t (i, o, l)) s.t, Q := K.pushQ (K.takes c.P c.L c.n s.t (i, o, l)) s.Q (i, o, l) x }
def portIn (u : Int) : List Int → Nat → Nat
  | [], _ => 0
  | y :: r, k => if y = u then k + 1 else portIn u r (k + 1)
def port (c : Cfg) (u : Int) : Nat := portIn u c.bs 0
def pkOf (f : Wire.Fr) : Pk := ⟨(f.a : Nat), (f.b : Nat), (f.l : Nat), (f.x : Nat)⟩
def dataE (c : Cfg) (s : St) (i : Nat) (f : Wire.Fr) : Int := if f.a < c.N ∧ f.b < c.N then rComeE c.room (s.r i f.l) (f.s : Nat) else 30
def data (c : Cfg) (s : St) (i : Nat) (f : Wire.Fr) : St :=
  if dataE c s i f = 0 then push c { s with r := up2 s.r i f.l (rCome c.room (s.r i f.l) (f.s : Nat)) } i (c.way f.b) f.l (pkOf f) else s
def frameE (c : Cfg) (s : St) (i : Nat) (f : Wire.Fr) : Int := if f.k = 1 then dataE c s i f else 0
def frame (c : Cfg) (s : St) (i : Nat) (f : Wire.Fr) : St :=
  if f.k = 1 then data c s i f
  else if f.k = 2 then { s with s := up2 s.s i f.l (sHear (s.s i f.l) (f.s : Nat)) }
  else if f.k = 3 then { s with r := up2 s.r i f.l (rHear c.room (s.r i f.l) (f.s : Nat)) }
  else s
def takeE (c : Cfg) (s : St) (u : Int) (b : List Nat) : Int :=
  if port c u = 0 then 1 else match Wire.dec b with
  | none => 30
  | some f => if f.l < c.L then frameE c s (port c u) f else 30
def take (c : Cfg) (s : St) (u : Int) (b : List Nat) : St :=
  if port c u = 0 then s else match Wire.dec b with
  | none => s
  | some f => if f.l < c.L then frame c s (port c u) f else s
def inside (s : St) (i l : Nat) : Nat → Nat
  | 0 => 0
  | o + 1 => inside s i l o + (s.Q ((i : Nat), (o : Nat), (l : Nat))).length
def feed1 (c : Cfg) (s : St) (l : Nat) : St :=
  if c.room ≤ inside s 0 l c.P then s else
  match K.Hst.lane s.hL (l : Nat) with
  | [] => s
  | x :: _ => push c { s with hL := K.Hst.drop1 s.hL (l : Nat) } 0 (c.way x.d.toNat) l x
def feedTo (c : Cfg) (s : St) : Nat → St
  | 0 => s
  | l + 1 => feed1 c (feedTo c s l) l
def feed (c : Cfg) (s : St) : St := feedTo c s c.L
def may (c : Cfg) (s : St) (i o l : Nat) : Bool := decide (l < c.L) && !(s.Q ((i : Nat), (o : Nat), (l : Nat))).isEmpty && (decide (o = 0) || decide (0 < (s.s o l).2 - (s.s o l).1))
def maskOf (p : Nat → Bool) : Nat → Nat
  | 0 => 0
  | n + 1 => maskOf p n + (if p n then 2 ^ n else 0)
def mayM (c : Cfg) (s : St) (i o : Nat) : Nat := maskOf (may c s i o) c.L
def askM (c : Cfg) (s : St) (i : Nat) : Nat := maskOf (fun o => decide (mayM c s i o ≠ 0)) c.P
def sub1 (f : Nat → Int) (z : Int) : Nat → Int := fun i => if (i : Int) = z then f i - 1 else f i
def wLane (n : Nat) (lf : Nat → Int) (f m : Nat) : Int :=
  if M.Isl.pickP (fun i => m.testBit i) f n < 0 then -1
  else if M.Isl.pickP (fun i => m.testBit i && decide (0 < lf i)) f n < 0 then M.Isl.pickP (fun i => m.testBit i) f n
  else M.Isl.pickP (fun i => m.testBit i && decide (0 < lf i)) f n
def wLeft (n : Nat) (wt lf : Nat → Int) (f m : Nat) : Nat → Int :=
  if M.Isl.pickP (fun i => m.testBit i) f n < 0 then lf
  else if M.Isl.pickP (fun i => m.testBit i && decide (0 < lf i)) f n < 0 then sub1 wt (wLane n lf f m)
  else sub1 lf (wLane n lf f m)
def wFrom (n : Nat) (lf : Nat → Int) (f m : Nat) : Nat := if wLane n lf f m < 0 then f else ((wLane n lf f m).toNat + 1) % n
abbrev Outs := List (Int × List Nat)
def out (c : Cfg) (o : Nat) (f : Wire.Fr) : Int × List Nat := (c.dst o, if f.sound = true then f.enc else [])
def dataF (l : Nat) (n : Int) (x : Pk) : Wire.Fr := ⟨1, l, (n % 65536).toNat, (x.s % 256).toNat, (x.d % 256).toNat, x.b.toNat⟩
def goes (c : Cfg) (s : St) (i o l : Nat) : St × Outs :=
  let x := K.hd (s.Q ((i : Nat), (o : Nat), (l : Nat)))
  let s1 : St := { s with t := s.t - 1, Q := K.upd s.Q ((i : Nat), (o : Nat), (l : Nat)) (s.Q ((i : Nat), (o : Nat), (l : Nat))).tail, r := if i = 0 then s.r else up2 s.r i l (rFree (s.r i l)) }
  if o = 0 then ({ s1 with hG := s1.hG ++ [x] }, [])
  else ({ s1 with s := up2 s1.s o l (sNext (s1.s o l)) }, [out c o (dataF l (sNum (s1.s o l)) x)])
def pass (c : Cfg) (s : St) (i o : Nat) : St × Outs :=
  if wLane c.L (s.wl o) (s.wf o) (mayM c s i o) < 0 then (s, [])
  else goes c { s with wl := up1 s.wl o (wLeft c.L c.wt (s.wl o) (s.wf o) (mayM c s i o)), wf := up1 s.wf o (wFrom c.L (s.wl o) (s.wf o) (mayM c s i o)) } i o (wLane c.L (s.wl o) (s.wf o) (mayM c s i o)).toNat
def passTo (c : Cfg) (m : Nat → Int) (s : St) : Nat → St × Outs
  | 0 => (s, [])
  | k + 1 => if m k < 0 then passTo c m s k else ((pass c (passTo c m s k).1 k (m k).toNat).1, (passTo c m s k).2 ++ (pass c (passTo c m s k).1 k (m k).toNat).2)
def asks (c : Cfg) (s : St) : Nat → Nat := fun i => if i < c.P then askM c s i else 0
def matched (c : Cfg) (s : St) : Nat → Int := M.Isl.run (asks c s) s.g s.a c.P c.rounds
def turned (c : Cfg) (s : St) : St := { s with g := M.Isl.runG (asks c s) s.g s.a c.P, a := M.Isl.runA (asks c s) s.g s.a c.P }
def moved (c : Cfg) (s : St) : St × Outs := passTo c (matched c s) (turned c s) c.P
def tellF (k l : Nat) (n : Int) : Wire.Fr := ⟨k, l, (n % 65536).toNat, 0, 0, 0⟩
def tell1 (c : Cfg) (s : St) (o l : Nat) : Outs := [out c o (tellF 3 l (s.s o l).1), out c o (tellF 2 l ((s.r o l).1 + ((c.room : Int) - (s.r o l).2)))]
def tellTo (c : Cfg) (s : St) (o : Nat) : Nat → Outs
  | 0 => []
  | l + 1 => tellTo c s o l ++ tell1 c s o l
def tellAll (c : Cfg) (s : St) : Nat → Outs
  | 0 => []
  | k + 1 => tellAll c s k ++ tellTo c s (k + 1) c.L
def tick (c : Cfg) (s : St) : St × Outs :=
  let p := moved c (feed c s)
  ({ p.1 with k := p.1.k + 1 }, p.2 ++ if (p.1.k + 1) % c.every = 0 then tellAll c p.1 c.bs.length else [])
def st0 (c : Cfg) (start : Nat) : St :=
  ⟨[], [], 0, fun _ => [], fun _ _ => ((start : Nat), (start : Nat) + (c.room : Int)), fun _ _ => ((start : Nat), 0), fun _ => 0, fun _ => 0, fun _ => c.wt, fun _ => 0, 0⟩
end Go.Proofs.YtniicgbkeifnjaaGreatDoor.Nd
