/-
  The check of bytes as plain numbers: a step of the register, its linearity, that it can be undone, and what follows for rows of bytes. Conditions: none; nothing of the program is spoken of here.
-/
import Derived.Laws.BitsAllLaws
namespace Go.Proofs.Ytfldhjeeoaplfaa.Crc

/-- one bit up: the bit that falls out brings 4129 in -/
def up (n : Nat) : Nat := if n < 32768 then 2 * n else (2 * n - 65536) ^^^ 4129
def ups : Nat → Nat → Nat
  | 0, n => n
  | k + 1, n => up (ups k n)
def step (r c : Nat) : Nat := ups 8 (r ^^^ c * 256)
def sumFrom (r : Nat) (l : List Nat) : Nat := l.foldl step r
def crc (l : List Nat) : Nat := sumFrom 65535 l
/-- all are bytes -/
def Oct (l : List Nat) : Prop := ∀ x ∈ l, x < 256

theorem xor_lt {a b : Nat} (ha : a < 65536) (hb : b < 65536) : a ^^^ b < 65536 := Nat.xor_lt_two_pow (n := 16) ha hb
theorem xor_lt8 {a b : Nat} (ha : a < 256) (hb : b < 256) : a ^^^ b < 256 := Nat.xor_lt_two_pow (n := 8) ha hb
theorem up_lt {n : Nat} (h : n < 65536) : up n < 65536 := by
  unfold up; split
  · omega
  · exact xor_lt (by omega) (by omega)
theorem ups_lt {k n : Nat} (h : n < 65536) : ups k n < 65536 := by
  induction k with
  | zero => exact h
  | succ k ih => exact up_lt ih
theorem step_lt {r c : Nat} (h : r < 65536) (hc : c < 256) : step r c < 65536 := ups_lt (xor_lt h (by omega))
theorem sumFrom_nil (r : Nat) : sumFrom r [] = r := rfl
theorem sumFrom_cons (r c : Nat) (l : List Nat) : sumFrom r (c :: l) = sumFrom (step r c) l := by unfold sumFrom; rw [List.foldl_cons]
theorem Oct.head {c : Nat} {l : List Nat} (o : Oct (c :: l)) : c < 256 := o c List.mem_cons_self
theorem Oct.tail {c : Nat} {l : List Nat} (o : Oct (c :: l)) : Oct l := fun x hx => o x (List.mem_cons_of_mem _ hx)
theorem sumFrom_lt (l : List Nat) : ∀ {r : Nat}, r < 65536 → Oct l → sumFrom r l < 65536 := by
  induction l with
  | nil => intro r h _; rw [sumFrom_nil]; exact h
  | cons c l ih => intro r h o; rw [sumFrom_cons]; exact ih (step_lt h o.head) o.tail
theorem crc_lt {l : List Nat} (o : Oct l) : crc l < 65536 := sumFrom_lt l (by omega) o

/-- the same, in parts -/
theorem up_eq (n : Nat) (h : n < 65536) : up n = (2 * n % 65536) ^^^ (n / 32768 * 4129) := by
  unfold up; split
  · have e : n / 32768 = 0 := by omega
    have e2 : 2 * n % 65536 = 2 * n := by omega
    rw [e, e2]; simp
  · have e : n / 32768 = 1 := by omega
    have e2 : 2 * n % 65536 = 2 * n - 65536 := by omega
    rw [e, e2]
theorem xor_div (a b : Nat) : (a ^^^ b) / 32768 = (a / 32768) ^^^ (b / 32768) := Nat.xor_div_two_pow (n := 15)
theorem xor_mod (a b : Nat) : (a ^^^ b) % 65536 = (a % 65536) ^^^ (b % 65536) := Nat.xor_mod_two_pow (n := 16)
theorem xor_double (a b : Nat) : 2 * (a ^^^ b) = (2 * a) ^^^ (2 * b) := by
  have := Nat.shiftLeft_xor_distrib (a := a) (b := b) (i := 1)
  simpa [Nat.shiftLeft_eq, Nat.mul_comm] using this
theorem xor_256 (a b : Nat) : (a ^^^ b) * 256 = (a * 256) ^^^ (b * 256) := by
  have := Nat.shiftLeft_xor_distrib (a := a) (b := b) (i := 8)
  simpa [Nat.shiftLeft_eq] using this
theorem x4 (a b c d : Nat) : (a ^^^ b) ^^^ (c ^^^ d) = (a ^^^ c) ^^^ (b ^^^ d) := by
  rw [Nat.xor_assoc, Nat.xor_assoc, ← Nat.xor_assoc b, ← Nat.xor_assoc c, Nat.xor_comm b c]
theorem up_xor {a b : Nat} (ha : a < 65536) (hb : b < 65536) : up (a ^^^ b) = up a ^^^ up b := by
  rw [up_eq _ (xor_lt ha hb), up_eq a ha, up_eq b hb, xor_double, xor_mod, xor_div, x4]
  congr 1
  have h1 : a / 32768 = 0 ∨ a / 32768 = 1 := by omega
  have h2 : b / 32768 = 0 ∨ b / 32768 = 1 := by omega
  rcases h1 with h1 | h1 <;> rcases h2 with h2 | h2 <;> rw [h1, h2] <;> rfl
theorem ups_xor {k a b : Nat} (ha : a < 65536) (hb : b < 65536) : ups k (a ^^^ b) = ups k a ^^^ ups k b := by
  induction k with
  | zero => rfl
  | succ k ih => show up (ups k (a ^^^ b)) = _; rw [ih]; exact up_xor (ups_lt ha) (ups_lt hb)
theorem odd_xor (m : Nat) : (2 * m) ^^^ 4129 = 2 * (m ^^^ 2064) + 1 := by
  apply Nat.eq_of_testBit_eq
  intro i
  rw [Nat.testBit_xor]
  cases i with
  | zero => simp [Nat.testBit_zero]
  | succ i => simp [Nat.testBit_succ]; rw [show (2 * (m ^^^ 2064) + 1) / 2 = m ^^^ 2064 by omega]; simp [Nat.testBit_xor]
theorem up_zero {n : Nat} (h : n < 65536) (e : up n = 0) : n = 0 := by
  unfold up at e; split at e
  · omega
  · rw [show 2 * n - 65536 = 2 * (n - 32768) by omega, odd_xor] at e; omega
theorem ups_zero {k n : Nat} (h : n < 65536) (e : ups k n = 0) : n = 0 := by
  induction k with
  | zero => exact e
  | succ k ih => exact ih (up_zero (ups_lt h) e)
theorem xor_eq_zero {a b : Nat} (h : a ^^^ b = 0) : a = b := by
  have : a ^^^ b ^^^ b = b := by rw [h]; simp
  rwa [Nat.xor_assoc, Nat.xor_self, Nat.xor_zero] at this
theorem ups_inj {k a b : Nat} (ha : a < 65536) (hb : b < 65536) (e : ups k a = ups k b) : a = b := by
  apply xor_eq_zero
  apply ups_zero (k := k) (xor_lt ha hb)
  rw [ups_xor ha hb, e, Nat.xor_self]
/-- bytes below shift up unbent -/
theorem ups8 {n : Nat} (h : n < 256) : ups 8 n = n * 256 := by
  have u : ∀ m, m < 32768 → up m = 2 * m := fun m hm => by unfold up; rw [if_pos hm]
  have g : ∀ k, k ≤ 8 → ups k n = n * 2 ^ k := by
    intro k
    induction k with
    | zero => intro _; rw [Nat.pow_zero, Nat.mul_one]; rfl
    | succ k ih =>
      intro hk
      have p : 2 ^ k ≤ 2 ^ 7 := Nat.pow_le_pow_right (by omega) (by omega)
      have q : n * 2 ^ k ≤ 255 * 2 ^ 7 := Nat.mul_le_mul (by omega) p
      show up (ups k n) = _
      rw [ih (by omega), u _ (by omega), Nat.pow_succ, Nat.mul_comm 2, Nat.mul_assoc]
  exact g 8 (by omega)
theorem xor_right_cancel {a b c : Nat} (h : a ^^^ c = b ^^^ c) : a = b := by
  have : a ^^^ c ^^^ c = b ^^^ c ^^^ c := by rw [h]
  simpa [Nat.xor_assoc] using this
theorem xor_left_cancel {a b c : Nat} (h : c ^^^ a = c ^^^ b) : a = b := xor_right_cancel (c := c) (by rwa [Nat.xor_comm a, Nat.xor_comm b])
theorem step_inj {r s c : Nat} (hr : r < 65536) (hs : s < 65536) (hc : c < 256) (e : step r c = step s c) : r = s :=
  xor_right_cancel (ups_inj (xor_lt hr (by omega)) (xor_lt hs (by omega)) e)
theorem step_inj2 {r c d : Nat} (hr : r < 65536) (hc : c < 256) (hd : d < 256) (e : step r c = step r d) : c = d := by
  have := xor_left_cancel (ups_inj (xor_lt hr (by omega)) (xor_lt hr (by omega)) e)
  omega
theorem sumFrom_inj (l : List Nat) : ∀ {r s : Nat}, r < 65536 → s < 65536 → Oct l → sumFrom r l = sumFrom s l → r = s := by
  induction l with
  | nil => intro r s _ _ _ e; rw [sumFrom_nil, sumFrom_nil] at e; exact e
  | cons c l ih =>
    intro r s hr hs o e
    rw [sumFrom_cons, sumFrom_cons] at e
    exact step_inj hr hs o.head (ih (step_lt hr o.head) (step_lt hs o.head) o.tail e)
theorem sumFrom_append (r : Nat) (l m : List Nat) : sumFrom r (l ++ m) = sumFrom (sumFrom r l) m := List.foldl_append
/-- two bytes at once: a number of sixteen bits goes into the register -/
theorem step2 {r a b : Nat} (hr : r < 65536) (ha : a < 256) (hb : b < 256) : step (step r a) b = ups 16 (r ^^^ (a * 256 + b)) := by
  have e : a * 256 + b = a * 256 ^^^ b := by
    have h1 := Nat.two_pow_add_eq_or_of_lt (i := 8) hb a
    apply Nat.eq_of_testBit_eq
    intro i
    rw [Nat.testBit_xor, Nat.mul_comm, show 256 * a = 2 ^ 8 * a from rfl, h1, Nat.testBit_or]
    rw [Nat.testBit_two_pow_mul]
    by_cases h : i < 8
    · simp [show ¬ 8 ≤ i by omega]
    · have p : 2 ^ 8 ≤ 2 ^ i := Nat.pow_le_pow_right (by omega) (by omega)
      have : b.testBit i = false := Nat.testBit_lt_two_pow (by omega)
      simp [this]
  have add : ∀ k m n, ups (k + m) n = ups k (ups m n) := by
    intro k m n
    induction k with
    | zero => rw [Nat.zero_add]; rfl
    | succ k ih => rw [Nat.succ_add]; show up (ups (k + m) n) = up (ups k (ups m n)); rw [ih]
  show ups 8 (ups 8 (r ^^^ a * 256) ^^^ b * 256) = _
  rw [e, ← ups8 hb, ← ups_xor (xor_lt hr (by omega)) (by omega), ← add, Nat.xor_assoc]
theorem step2_inj {r a b c d : Nat} (hr : r < 65536) (ha : a < 256) (hb : b < 256) (hc : c < 256) (hd : d < 256) (e : step (step r a) b = step (step r c) d) : a = c ∧ b = d := by
  rw [step2 hr ha hb, step2 hr hc hd] at e
  have := xor_left_cancel (ups_inj (xor_lt hr (by omega)) (xor_lt hr (by omega)) e)
  omega
theorem ups_nought (k : Nat) : ups k 0 = 0 := by
  induction k with
  | zero => rfl
  | succ k ih => show up (ups k 0) = 0; rw [ih]; rfl
/-- the bytes with their own check behind -/
theorem crc_own {l : List Nat} (o : Oct l) : crc (l ++ [crc l / 256, crc l % 256]) = 0 := by
  have h := crc_lt o
  have e : ∀ x y, crc (l ++ [x, y]) = step (step (crc l) x) y := fun x y => by unfold crc; rw [sumFrom_append, sumFrom_cons, sumFrom_cons, sumFrom_nil]
  rw [e, step2 h (by omega) (by omega), show crc l / 256 * 256 + crc l % 256 = crc l by omega, Nat.xor_self, ups_nought]
theorem crc_tail2 {l : List Nat} (o : Oct l) {a b : Nat} (ha : a < 65536) (hb : b < 65536) : (crc (l ++ [a / 256, a % 256]) = crc (l ++ [b / 256, b % 256])) ↔ a = b := by
  constructor
  · intro e
    unfold crc at e
    rw [sumFrom_append, sumFrom_append, sumFrom_cons, sumFrom_cons, sumFrom_cons, sumFrom_cons, sumFrom_nil, sumFrom_nil] at e
    have := step2_inj (r := sumFrom 65535 l) (crc_lt o) (a := a / 256) (b := a % 256) (c := b / 256) (d := b % 256) (by omega) (by omega) (by omega) (by omega) e
    omega
  · rintro rfl; rfl
theorem crc_one {a b : Nat} (ha : a < 256) (hb : b < 256) : crc [a] = crc [b] ↔ a = b :=
  ⟨fun e => by unfold crc at e; rw [sumFrom_cons, sumFrom_cons, sumFrom_nil, sumFrom_nil] at e; exact step_inj2 (r := 65535) (by omega) ha hb e, by rintro rfl; rfl⟩
/-- rows that differ in two bytes side by side -/
theorem crc_pair {l m : List Nat} (o : Oct l) (o' : Oct m) {a b c d : Nat} (ha : a < 256) (hb : b < 256) (hc : c < 256) (hd : d < 256) (e : crc (l ++ a :: b :: m) = crc (l ++ c :: d :: m)) : a = c ∧ b = d := by
  unfold crc at e
  rw [sumFrom_append, sumFrom_append, sumFrom_cons, sumFrom_cons, sumFrom_cons, sumFrom_cons] at e
  have h : sumFrom 65535 l < 65536 := crc_lt o
  exact step2_inj h ha hb hc hd (sumFrom_inj m (step_lt (step_lt h ha) hb) (step_lt (step_lt h hc) hd) o' e)
theorem crc_byte {l m : List Nat} (o : Oct l) (o' : Oct m) {a c : Nat} (ha : a < 256) (hc : c < 256) (e : crc (l ++ a :: m) = crc (l ++ c :: m)) : a = c := by
  unfold crc at e
  rw [sumFrom_append, sumFrom_append, sumFrom_cons, sumFrom_cons] at e
  have h : sumFrom 65535 l < 65536 := crc_lt o
  exact step_inj2 h ha hc (sumFrom_inj m (step_lt h ha) (step_lt h hc) o' e)
theorem step_xor {r s c d : Nat} (hr : r < 65536) (hs : s < 65536) (hc : c < 256) (hd : d < 256) : step (r ^^^ s) (c ^^^ d) = step r c ^^^ step s d := by
  unfold step
  rw [xor_256, x4, ups_xor (xor_lt hr (by omega)) (xor_lt hs (by omega))]
/-- three rows of one length, xored -/
theorem sum_three : ∀ (n : Nat) (a b c : List Nat) (r s t : Nat), a.length = n → b.length = n → c.length = n → Oct a → Oct b → Oct c → r < 65536 → s < 65536 → t < 65536 →
    sumFrom r a ^^^ sumFrom s b ^^^ sumFrom t c = sumFrom (r ^^^ s ^^^ t) ((List.range n).map fun i => a.getD i 0 ^^^ b.getD i 0 ^^^ c.getD i 0) := by
  intro n
  induction n with
  | zero =>
    intro a b c r s t ha hb hc _ _ _ _ _ _
    obtain rfl := List.length_eq_zero_iff.1 ha
    obtain rfl := List.length_eq_zero_iff.1 hb
    obtain rfl := List.length_eq_zero_iff.1 hc
    rfl
  | succ n ih =>
    intro a b c r s t ha hb hc oa ob oc hr hs ht
    match a, b, c, ha, hb, hc with
    | x :: a, y :: b, z :: c, ha, hb, hc =>
      have hx := oa.head
      have hy := ob.head
      have hz := oc.head
      have := ih a b c (step r x) (step s y) (step t z) (by simpa using ha) (by simpa using hb) (by simpa using hc) oa.tail ob.tail oc.tail (step_lt hr hx) (step_lt hs hy) (step_lt ht hz)
      rw [sumFrom_cons, sumFrom_cons, sumFrom_cons, this, List.range_succ_eq_map, List.map_cons, List.map_map, sumFrom_cons]
      simp only [List.getD_cons_zero]
      rw [step_xor (xor_lt hr hs) ht (xor_lt8 hx hy) hz, step_xor hr hs hx hy]
      rfl
theorem crc_three {a b c : List Nat} {n : Nat} (ha : a.length = n) (hb : b.length = n) (hc : c.length = n) (oa : Oct a) (ob : Oct b) (oc : Oct c) :
    crc a ^^^ crc b ^^^ crc c = crc ((List.range n).map fun i => a.getD i 0 ^^^ b.getD i 0 ^^^ c.getD i 0) :=
  sum_three n a b c 65535 65535 65535 ha hb hc oa ob oc (by omega) (by omega) (by omega)
theorem crc_known : crc [49, 50, 51, 52, 53, 54, 55, 56, 57] = 10673 := by decide +kernel
theorem crc_none : crc [] = 65535 := rfl
theorem crc_snoc (l : List Nat) (c : Nat) : crc (l ++ [c]) = step (crc l) c := by unfold crc; rw [sumFrom_append, sumFrom_cons, sumFrom_nil]
theorem xor_ne {c x : Nat} (hx : x ≠ 0) : c ≠ c ^^^ x := fun e => hx (by
  have : c ^^^ 0 = c ^^^ x := by rw [Nat.xor_zero]; exact e
  exact (xor_left_cancel this).symm)
theorem getD_mem {l : List Nat} {k : Nat} (h : k < l.length) : l.getD k 0 = l[k] := by rw [List.getD_eq_getElem?_getD, List.getElem?_eq_getElem h]; rfl
/-- one byte that is another one -/
theorem crc_set {l : List Nat} (o : Oct l) {k x : Nat} (hk : k < l.length) (hx : x < 256) (h0 : x ≠ 0) : crc l ≠ crc (l.set k (l.getD k 0 ^^^ x)) := by
  intro e
  have hc : l[k] < 256 := o _ (List.getElem_mem hk)
  rw [getD_mem hk, List.set_eq_take_append_cons_drop, if_pos hk] at e
  have e2 : l = l.take k ++ l[k] :: l.drop (k + 1) := by rw [← List.drop_eq_getElem_cons hk, List.take_append_drop]
  have e3 : crc l = crc (l.take k ++ l[k] :: l.drop (k + 1)) := congrArg crc e2
  rw [e3] at e
  exact xor_ne h0 (crc_byte (fun y hy => o y (List.mem_of_mem_take hy)) (fun y hy => o y (List.mem_of_mem_drop hy)) hc (xor_lt8 hc hx) e)
theorem set_two (p q : List Nat) (c d c' d' : Nat) : ((p ++ c :: d :: q).set p.length c').set (p.length + 1) d' = p ++ c' :: d' :: q := by
  rw [List.set_append_right _ _ (Nat.le_refl _), List.set_append_right _ _ (by omega)]
  rw [Nat.sub_self, show p.length + 1 - p.length = 1 by omega]
  rfl
theorem get_two (p q : List Nat) (c d : Nat) : (p ++ c :: d :: q).getD p.length 0 = c ∧ (p ++ c :: d :: q).getD (p.length + 1) 0 = d := by
  rw [List.getD_eq_getElem?_getD, List.getD_eq_getElem?_getD, List.getElem?_append_right (Nat.le_refl _), List.getElem?_append_right (by omega)]
  rw [Nat.sub_self, show p.length + 1 - p.length = 1 by omega]
  exact ⟨rfl, rfl⟩
/-- two bytes side by side that are others -/
theorem crc_set2 {l : List Nat} (o : Oct l) {k x y : Nat} (hk : k + 1 < l.length) (hx : x < 256) (hy : y < 256) (h0 : ¬ (x = 0 ∧ y = 0)) :
    crc l ≠ crc ((l.set k (l.getD k 0 ^^^ x)).set (k + 1) (l.getD (k + 1) 0 ^^^ y)) := by
  obtain ⟨p, q, c, d, rfl, rfl⟩ : ∃ p q c d, l = p ++ c :: d :: q ∧ k = p.length := by
    refine ⟨l.take k, l.drop (k + 1 + 1), l[k], l[k + 1], ?_, by simp; omega⟩
    rw [← List.drop_eq_getElem_cons hk, ← List.drop_eq_getElem_cons (by omega), List.take_append_drop]
  rw [(get_two p q c d).1, (get_two p q c d).2, set_two]
  intro e
  have hc : c < 256 := o c (by simp)
  have hd : d < 256 := o d (by simp)
  have := crc_pair (fun z hz => o z (by simp [hz])) (fun z hz => o z (by simp [hz])) hc hd (xor_lt8 hc hx) (xor_lt8 hd hy) e
  by_cases hx0 : x = 0
  · exact xor_ne (fun h => h0 ⟨hx0, h⟩) this.2
  · exact xor_ne hx0 this.1
end Go.Proofs.Ytfldhjeeoaplfaa.Crc
