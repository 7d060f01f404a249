/-
  Masks as plain numbers: the bits of a number below 65536 in their order, the lowest one, how many there are, the first one round, rows turned into columns. Conditions: none.
-/
namespace Go.Proofs.YtlojadodabddpaaDoor.Mask
set_option linter.unusedSimpArgs false

/-- those that are in m, rising -/
def bitsOf (m : Nat) : List Nat := (List.range 16).filter fun i => m.testBit i

theorem bit_lt {m i : Nat} (hm : m < 65536) (h : m.testBit i = true) : i < 16 := by
  rcases Nat.lt_or_ge i 16 with h' | h'
  · exact h'
  · have : m.testBit i = false := Nat.testBit_lt_two_pow (Nat.lt_of_lt_of_le (show m < 2 ^ 16 from hm) (Nat.pow_le_pow_right (by omega) h'))
    rw [this] at h; cases h
theorem mem_bits {m i : Nat} (hm : m < 65536) : i ∈ bitsOf m ↔ m.testBit i = true := by
  unfold bitsOf
  rw [List.mem_filter, List.mem_range]
  exact ⟨fun h => h.2, fun h => ⟨bit_lt hm h, h⟩⟩
theorem bits_lt {m i : Nat} (h : i ∈ bitsOf m) : i < 16 := List.mem_range.1 (List.mem_filter.1 h).1
theorem bits_sorted (m : Nat) : (bitsOf m).Pairwise (· < ·) := List.Pairwise.filter _ List.pairwise_lt_range
theorem bits_len (m : Nat) : (bitsOf m).length ≤ 16 := by
  have := List.length_filter_le (fun i => m.testBit i) (List.range 16)
  rw [List.length_range] at this
  exact this
theorem bits_zero : bitsOf 0 = [] := by decide

/-- a number that is not 0 has a lowest bit -/
theorem lowest : ∀ (m : Nat), m ≠ 0 → ∃ i q, m = 2 ^ i * (2 * q + 1)
  | m, h => by
    rcases Nat.mod_two_eq_zero_or_one m with e | e
    · have hlt : m / 2 < m := by omega
      obtain ⟨i, q, hq⟩ := lowest (m / 2) (by omega)
      refine ⟨i + 1, q, ?_⟩
      rw [Nat.pow_succ, Nat.mul_comm (2 ^ i) 2, Nat.mul_assoc, ← hq]
      omega
    · exact ⟨0, m / 2, by rw [Nat.pow_zero]; omega⟩
theorem odd_bit (q s : Nat) : (2 * q + 1).testBit s = if s = 0 then true else q.testBit (s - 1) := by
  cases s with
  | zero => simp [Nat.testBit_zero]
  | succ s => rw [Nat.testBit_succ, show (2 * q + 1) / 2 = q by omega]; simp
theorem even_bit (q s : Nat) : (2 * q).testBit s = if s = 0 then false else q.testBit (s - 1) := by
  cases s with
  | zero => simp [Nat.testBit_zero]
  | succ s => rw [Nat.testBit_succ, show (2 * q) / 2 = q by omega]; simp
theorem low_at (i q j : Nat) : (2 ^ i * (2 * q + 1)).testBit j = if j < i then false else (2 * q + 1).testBit (j - i) := by
  have := Nat.testBit_two_pow_mul_add (2 * q + 1) (b := 0) (i := i) (Nat.two_pow_pos i) j
  rw [Nat.add_zero] at this
  rw [this]
  simp
theorem less_at (i q j : Nat) : (2 ^ i * (2 * q + 1) - 1).testBit j = if j < i then true else (2 * q).testBit (j - i) := by
  have hp := Nat.two_pow_pos i
  have := Nat.testBit_two_pow_mul_add (2 * q) (b := 2 ^ i - 1) (i := i) (by omega) j
  rw [show 2 ^ i * (2 * q + 1) - 1 = 2 ^ i * (2 * q) + (2 ^ i - 1) by rw [Nat.mul_add, Nat.mul_one]; omega, this, Nat.testBit_two_pow_sub_one]
  split <;> simp_all
/-- the lowest bit struck -/
theorem strike_at (i q j : Nat) : (2 ^ i * (2 * q + 1) &&& (2 ^ i * (2 * q + 1) - 1)).testBit j = ((2 ^ i * (2 * q + 1)).testBit j && decide (j ≠ i)) := by
  rw [Nat.testBit_and, low_at, less_at, odd_bit, even_bit]
  by_cases h : j < i
  · simp [h]
  · by_cases e : j = i
    · subst e; simp
    · have : j - i ≠ 0 := by omega
      simp [h, this, e]
/-- the lowest bit alone -/
theorem alone_is (i q : Nat) (h : 2 ^ i * (2 * q + 1) < 65536) : (2 ^ i * (2 * q + 1) &&& (65536 - 2 ^ i * (2 * q + 1))) = 2 ^ i := by
  have hp : 0 < 2 ^ i * (2 * q + 1) := Nat.mul_pos (Nat.two_pow_pos i) (by omega)
  apply Nat.eq_of_testBit_eq
  intro j
  have hs := Nat.testBit_two_pow_sub_succ (n := 16) (x := 2 ^ i * (2 * q + 1) - 1) (by omega) j
  rw [show (2 : Nat) ^ 16 - (2 ^ i * (2 * q + 1) - 1 + 1) = 65536 - 2 ^ i * (2 * q + 1) by omega] at hs
  rw [Nat.testBit_and, hs, low_at, less_at, odd_bit, even_bit, Nat.testBit_two_pow]
  have hi : i < 16 := by
    rcases Nat.lt_or_ge i 16 with h' | h'
    · exact h'
    · exfalso
      have h1 : (2 : Nat) ^ 16 ≤ 2 ^ i := Nat.pow_le_pow_right (by omega) h'
      have h2 : 2 ^ i * 1 ≤ 2 ^ i * (2 * q + 1) := Nat.mul_le_mul_left _ (by omega)
      omega
  by_cases h1 : j < i
  · have : ¬ i = j := by omega
    simp [h1, this]
  · by_cases e : i = j
    · subst e; simp [hi]
    · have : j - i ≠ 0 := by omega
      simp [h1, this, e]
      intro h _
      exact h
theorem low_lt {i q : Nat} (h : 2 ^ i * (2 * q + 1) < 65536) : i < 16 := by
  refine bit_lt h ?_
  rw [low_at, odd_bit]
  simp
/-- the bits, the lowest first -/
theorem bits_cons {i q : Nat} (h : 2 ^ i * (2 * q + 1) < 65536) : bitsOf (2 ^ i * (2 * q + 1)) = i :: bitsOf (2 ^ i * (2 * q + 1) &&& (2 ^ i * (2 * q + 1) - 1)) := by
  have hi := low_lt h
  unfold bitsOf
  rw [show (16 : Nat) = i + (1 + (15 - i)) by omega, List.range_add, List.range_add]
  simp only [List.filter_append, List.map_append, List.filter_map, Function.comp_def, strike_at]
  have e1 : (List.range i).filter (fun j => (2 ^ i * (2 * q + 1)).testBit j) = [] := by
    rw [List.filter_eq_nil_iff]
    intro j hj
    rw [low_at, if_pos (List.mem_range.1 hj)]
    simp
  have e2 : (List.range i).filter (fun j => (2 ^ i * (2 * q + 1)).testBit j && decide (j ≠ i)) = [] := by
    rw [List.filter_eq_nil_iff]
    intro j hj
    rw [low_at, if_pos (List.mem_range.1 hj)]
    simp
  have e3 : (2 ^ i * (2 * q + 1)).testBit (i + 0) = true := by rw [low_at, odd_bit]; simp
  have e4 : (List.range 1).filter (fun x => (2 ^ i * (2 * q + 1)).testBit (i + x)) = [0] := by
    rw [show List.range 1 = [0] from rfl, List.filter_cons, e3]
    simp
  rw [e1, e2]
  simp [e4]
  have e5 : [0].filter (fun x => (2 ^ i * (2 * q + 1)).testBit (i + x)) = [0] := e4
  rw [e5]
  simp

/-- where the lowest bit stands, by the table of math/bits -/
def tab : List Int := [0, 1, 28, 2, 29, 14, 24, 3, 30, 22, 20, 15, 25, 17, 4, 8, 31, 27, 13, 23, 21, 19, 16, 7, 26, 12, 18, 6, 11, 5, 10, 9]
theorem tab_at : ∀ i, i < 16 → 2 ^ i * 125613361 % 4294967296 / 134217728 < 32 ∧ tab.getD (2 ^ i * 125613361 % 4294967296 / 134217728) 0 = (i : Nat) := by decide

/-- how many bits a byte has, by the table of math/bits -/
def ones (b : Nat) : Nat := ((List.range 8).filter fun i => b.testBit i).length
theorem bits_ones (m : Nat) : (bitsOf m).length = ones (m % 256) + ones (m / 256) := by
  unfold bitsOf ones
  rw [show (16 : Nat) = 8 + 8 by rfl, List.range_add, List.filter_append, List.length_append, List.filter_map, List.length_map]
  congr 1
  · congr 1
    apply List.filter_congr
    intro i hi
    have hi := List.mem_range.1 hi
    rw [show (256 : Nat) = 2 ^ 8 by rfl, Nat.testBit_mod_two_pow]
    simp [hi]
  · congr 1
    apply List.filter_congr
    intro i hi
    rw [Function.comp, show (256 : Nat) = 2 ^ 8 by rfl, Nat.testBit_div_two_pow, Nat.add_comm]

/-- from, .., n - 1, 0, .., from - 1 -/
def roundOf (f n : Nat) : List Nat := (List.range n).map fun i => (f + i) % n
/-- the first one in m, round; -1: none -/
def pick (m f n : Nat) : Int := match (roundOf f n).find? (fun i => m.testBit i) with
  | some i => (i : Nat)
  | none => -1
theorem round_len (f n : Nat) : (roundOf f n).length = n := by simp [roundOf]
theorem round_at {f n i : Nat} (h : i < n) : (roundOf f n).getD i 0 = (f + i) % n := by simp [roundOf, List.getD, h]
theorem pick_none {m f n : Nat} (h : ∀ i, i < n → m.testBit ((f + i) % n) = false) : pick m f n = -1 := by
  unfold pick
  have : (roundOf f n).find? (fun i => m.testBit i) = none := by
    rw [List.find?_eq_none]
    intro x hx
    obtain ⟨i, hi, rfl⟩ := List.mem_map.1 hx
    rw [h i (List.mem_range.1 hi)]
    simp
  rw [this]
theorem pick_some {m f n k : Nat} (hk : k < n) (h : ∀ i, i < k → m.testBit ((f + i) % n) = false) (ht : m.testBit ((f + k) % n) = true) : pick m f n = ((f + k) % n : Nat) := by
  unfold pick roundOf
  rw [show n = k + (1 + (n - k - 1)) by omega, List.range_add, List.range_add, ← show n = k + (1 + (n - k - 1)) by omega]
  simp only [List.map_append, List.find?_append]
  have e1 : ((List.range k).map (fun i => (f + i) % n)).find? (fun i => m.testBit i) = none := by
    rw [List.find?_eq_none]
    intro x hx
    obtain ⟨i, hi, rfl⟩ := List.mem_map.1 hx
    rw [h i (List.mem_range.1 hi)]
    simp
  rw [e1]
  simp [List.range_succ, ht]

/-- the first i rows: those of them that have bit k, as a mask -/
def col (rows : List Nat) (k : Nat) : Nat → Nat
  | 0 => 0
  | i + 1 => col rows k i + if (rows.getD i 0).testBit k then 2 ^ i else 0
theorem col_lt (rows : List Nat) (k : Nat) : ∀ i, col rows k i < 2 ^ i
  | 0 => by simp [col]
  | i + 1 => by
    have := col_lt rows k i
    rw [col, Nat.pow_succ]
    split <;> omega
theorem or_pow {a i : Nat} (h : a < 2 ^ i) : a ||| 2 ^ i = a + 2 ^ i := by
  have := Nat.two_pow_add_eq_or_of_lt h 1
  rw [Nat.mul_one] at this
  rw [Nat.or_comm, ← this, Nat.add_comm]
theorem col_bit (rows : List Nat) (k : Nat) : ∀ i j, (col rows k i).testBit j = (decide (j < i) && (rows.getD j 0).testBit k)
  | 0, j => by simp [col]
  | i + 1, j => by
    have ih := col_bit rows k i j
    have hl := col_lt rows k i
    rw [col]
    by_cases h : (rows.getD i 0).testBit k = true
    · rw [if_pos h, ← or_pow hl, Nat.testBit_or, ih, Nat.testBit_two_pow]
      by_cases e : i = j
      · subst e; rw [h]; simp
      · have e1 : decide (i = j) = false := by simp [e]
        have e2 : decide (j < i + 1) = decide (j < i) := by rw [decide_eq_decide]; omega
        rw [e1, e2]; simp
    · have h' : (rows.getD i 0).testBit k = false := by simpa using h
      rw [if_neg h, Nat.add_zero, ih]
      by_cases e : i = j
      · subst e; rw [h']; simp
      · have e2 : decide (j < i + 1) = decide (j < i) := by rw [decide_eq_decide]; omega
        rw [e2]
/-- rows as n columns -/
def turn (rows : List Nat) (n : Nat) : List Nat := (List.range n).map fun k => col rows k (min rows.length 16)
theorem turn_len (rows : List Nat) (n : Nat) : (turn rows n).length = n := by simp [turn]
theorem turn_at {rows : List Nat} {n k : Nat} (h : k < n) : (turn rows n).getD k 0 = col rows k (min rows.length 16) := by simp [turn, List.getD, h]
theorem col_lt16 (rows : List Nat) (k i : Nat) (h : i ≤ 16) : col rows k i < 65536 := Nat.lt_of_lt_of_le (col_lt rows k i) (Nat.pow_le_pow_right (by omega) h)
theorem turn_lt {rows : List Nat} {n x : Nat} (h : x ∈ turn rows n) : x < 65536 := by
  obtain ⟨k, _, rfl⟩ := List.mem_map.1 h
  exact col_lt16 _ _ _ (Nat.min_le_right _ _)
end Go.Proofs.YtlojadodabddpaaDoor.Mask
