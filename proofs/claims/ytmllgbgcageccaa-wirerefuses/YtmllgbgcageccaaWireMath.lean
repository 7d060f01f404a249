/-
  Frames as plain numbers: their bytes, the way back, that there is one way. Conditions: none; nothing of the program is spoken of here.
-/
import Derived.Test.YtmllgbgcageccaaCrcMath
namespace Go.Proofs.Ytmllgbgcageccaa.Wire
open Crc

structure Fr where
  k : Nat
  l : Nat
  s : Nat
  a : Nat
  b : Nat
  x : Nat

/-- its numbers are of their kinds -/
def Fr.ok (f : Fr) : Prop := f.k < 256 ∧ f.l < 256 ∧ f.s < 65536 ∧ f.a < 256 ∧ f.b < 256 ∧ f.x < 4294967296
def Fr.sound (f : Fr) : Bool := decide (f.l < 3 ∧ (f.k = 1 ∧ f.a < 6 ∧ f.b < 6 ∧ f.a ≠ f.b ∨ (f.k = 2 ∨ f.k = 3) ∧ f.a = 0 ∧ f.b = 0 ∧ f.x = 0))
theorem Fr.sound_iff (f : Fr) : f.sound = true ↔ (f.l < 3 ∧ (f.k = 1 ∧ f.a < 6 ∧ f.b < 6 ∧ f.a ≠ f.b ∨ (f.k = 2 ∨ f.k = 3) ∧ f.a = 0 ∧ f.b = 0 ∧ f.x = 0)) := by unfold Fr.sound; simp only [decide_eq_true_eq]
def zero : Fr := ⟨0, 0, 0, 0, 0, 0⟩
theorem zero_ok : zero.ok := by unfold zero Fr.ok; simp
def be (n : Nat) : List Nat := [n / 256, n % 256]
def be4 (n : Nat) : List Nat := [n / 16777216, n / 65536 % 256, n / 256 % 256, n % 256]
def Fr.tail (f : Fr) : List Nat := if f.k = 1 then [f.a, f.b] ++ be4 f.x else []
def Fr.fields (f : Fr) : List Nat := [f.k, f.l, f.s / 256, f.s % 256] ++ f.tail
def withCheck (l : List Nat) : List Nat := l ++ be (crc l)
def Fr.enc (f : Fr) : List Nat := withCheck f.fields
def sizeOf (k : Nat) : Nat := if k = 1 then 12 else if k = 2 ∨ k = 3 then 6 else 0
/-- the fields out of bytes, the data's too where c says so -/
def rd (c : Bool) (l : List Nat) : Fr :=
  if c = true then ⟨l.getD 0 0, l.getD 1 0, l.getD 2 0 * 256 + l.getD 3 0, l.getD 4 0, l.getD 5 0, l.getD 6 0 * 16777216 + l.getD 7 0 * 65536 + l.getD 8 0 * 256 + l.getD 9 0⟩
  else ⟨l.getD 0 0, l.getD 1 0, l.getD 2 0 * 256 + l.getD 3 0, 0, 0, 0⟩
def fits (l : List Nat) : Bool := decide (l.length ≠ 0 ∧ l.length = sizeOf (l.getD 0 0))
def checked (l : List Nat) : Bool := decide (withCheck (l.take (l.length - 2)) = l)
def back (l : List Nat) : Fr := rd (decide (l.getD 0 0 = 1)) (l.take (l.length - 2))
def dec (l : List Nat) : Option Fr := if (fits l && checked l && (back l).sound) = true then some (back l) else none
/-- the document's way -/
def back2 (l : List Nat) : Fr := rd (decide (l.getD 0 0 = 1 ∧ 12 ≤ l.length)) l
def dec2 (l : List Nat) : Option Fr := if 6 ≤ l.length ∧ (back2 l).sound = true ∧ (back2 l).enc = l then some (back2 l) else none

theorem be_length (n : Nat) : (be n).length = 2 := rfl
theorem be_oct {n : Nat} (h : n < 65536) : Oct (be n) := by
  intro y hy
  simp only [be, List.mem_cons, List.not_mem_nil, or_false] at hy
  omega
theorem be4_oct {n : Nat} (h : n < 4294967296) : Oct (be4 n) := by
  intro y hy
  simp only [be4, List.mem_cons, List.not_mem_nil, or_false] at hy
  omega
theorem oct_append {l m : List Nat} (h : Oct l) (k : Oct m) : Oct (l ++ m) := fun y hy => by
  rcases List.mem_append.1 hy with hy | hy
  · exact h y hy
  · exact k y hy
theorem fields_oct {f : Fr} (h : f.ok) : Oct f.fields := by
  obtain ⟨h1, h2, h3, h4, h5, h6⟩ := h
  unfold Fr.fields
  refine oct_append ?_ ?_
  · intro y hy
    simp only [List.mem_cons, List.not_mem_nil, or_false] at hy
    omega
  · unfold Fr.tail
    split
    · refine oct_append ?_ (be4_oct h6)
      intro y hy
      simp only [List.mem_cons, List.not_mem_nil, or_false] at hy
      omega
    · intro y hy; cases hy
theorem fields_length (f : Fr) : f.fields.length = if f.k = 1 then 10 else 4 := by
  unfold Fr.fields Fr.tail
  split <;> rfl
theorem withCheck_length (l : List Nat) : (withCheck l).length = l.length + 2 := by unfold withCheck; rw [List.length_append, be_length]
theorem withCheck_oct {l : List Nat} (h : Oct l) : Oct (withCheck l) := oct_append h (be_oct (crc_lt h))
theorem enc_oct {f : Fr} (h : f.ok) : Oct f.enc := withCheck_oct (fields_oct h)
theorem enc_length (f : Fr) : f.enc.length = if f.k = 1 then 12 else 6 := by
  unfold Fr.enc
  rw [withCheck_length, fields_length]
  split <;> rfl
theorem enc_long (f : Fr) : 6 ≤ f.enc.length ∧ f.enc.length ≤ 12 := by
  rw [enc_length]; split <;> omega
theorem sound_size {f : Fr} (h : f.sound = true) : sizeOf f.k = if f.k = 1 then 12 else 6 := by
  have := (f.sound_iff).1 h
  unfold sizeOf
  by_cases h1 : f.k = 1
  · rw [if_pos h1, if_pos h1]
  · rw [if_neg h1, if_neg h1, if_pos (by omega)]
/-- bytes with their own check behind have the check 0 -/
theorem check_zero {l : List Nat} (h : Oct l) : crc (withCheck l) = 0 := crc_own h

theorem list6 {l : List Nat} (h : l.length = 6) : ∃ c0 c1 c2 c3 c4 c5, l = [c0, c1, c2, c3, c4, c5] := by
  match l, h with
  | [c0, c1, c2, c3, c4, c5], _ => exact ⟨_, _, _, _, _, _, rfl⟩
theorem list12 {l : List Nat} (h : l.length = 12) : ∃ c0 c1 c2 c3 c4 c5 c6 c7 c8 c9 d0 d1, l = [c0, c1, c2, c3, c4, c5, c6, c7, c8, c9, d0, d1] := by
  match l, h with
  | [c0, c1, c2, c3, c4, c5, c6, c7, c8, c9, d0, d1], _ => exact ⟨_, _, _, _, _, _, _, _, _, _, _, _, rfl⟩

theorem take_check (l : List Nat) : (withCheck l).take ((withCheck l).length - 2) = l := by
  rw [withCheck_length, Nat.add_sub_cancel]
  unfold withCheck
  exact List.take_left
theorem enc_getD (f : Fr) (i : Nat) (h : i < f.fields.length) : f.enc.getD i 0 = f.fields.getD i 0 := by
  unfold Fr.enc withCheck
  rw [List.getD_eq_getElem?_getD, List.getElem?_append_left h, List.getD_eq_getElem?_getD]
theorem fields_first (f : Fr) : f.fields.getD 0 0 = f.k := rfl
theorem enc_first (f : Fr) : f.enc.getD 0 0 = f.k := by
  rw [enc_getD f 0 (by rw [fields_length]; split <;> omega)]; rfl
theorem rd_fields {f : Fr} (h : f.ok) (hs : f.sound = true) : rd (decide (f.k = 1)) f.fields = f := by
  have hs := (f.sound_iff).1 hs
  obtain ⟨h1, h2, h3, h4, h5, h6⟩ := h
  obtain ⟨k, l, s, a, b, x⟩ := f
  simp only at *
  by_cases hk : k = 1
  · subst hk
    simp only [rd, Fr.fields, Fr.tail, be4, decide_true, if_true, List.cons_append, List.nil_append, List.getD_cons_zero, List.getD_cons_succ, Fr.mk.injEq, true_and]
    omega
  · simp only [rd, Fr.fields, Fr.tail, hk, decide_false, if_false, List.append_nil, List.getD_cons_zero, List.getD_cons_succ, Fr.mk.injEq, true_and, Bool.false_eq_true]
    omega
theorem back_enc {f : Fr} (h : f.ok) (hs : f.sound = true) : back f.enc = f := by
  unfold back
  rw [enc_first, show f.enc = withCheck f.fields from rfl, take_check]
  exact rd_fields h hs
theorem fits_enc {f : Fr} (hs : f.sound = true) : fits f.enc = true := by
  have := enc_long f
  unfold fits
  rw [decide_eq_true_eq, enc_first, sound_size hs, enc_length]
  exact ⟨by split <;> omega, rfl⟩
theorem checked_enc (f : Fr) : checked f.enc = true := by
  unfold checked Fr.enc
  rw [take_check, decide_eq_true_eq]
theorem dec_enc {f : Fr} (h : f.ok) (hs : f.sound = true) : dec f.enc = some f := by
  unfold dec
  rw [back_enc h hs, fits_enc hs, checked_enc, hs]
  rfl

theorem rd_ok {c : Bool} {l : List Nat} (o : Oct l) : (rd c l).ok := by
  have g : ∀ i, l.getD i 0 < 256 := fun i => by
    rw [List.getD_eq_getElem?_getD]
    by_cases h : i < l.length
    · rw [List.getElem?_eq_getElem h]; exact o _ (List.getElem_mem h)
    · rw [List.getElem?_eq_none (by omega)]; simp
  have g0 := g 0; have g1 := g 1; have g2 := g 2; have g3 := g 3; have g4 := g 4; have g5 := g 5; have g6 := g 6; have g7 := g 7; have g8 := g 8; have g9 := g 9
  unfold rd Fr.ok
  split <;> simp only <;> omega
theorem oct_take {l : List Nat} (o : Oct l) (n : Nat) : Oct (l.take n) := fun y hy => o y (List.mem_of_mem_take hy)
theorem back_ok {l : List Nat} (o : Oct l) : (back l).ok := rd_ok (oct_take o _)
theorem back2_ok {l : List Nat} (o : Oct l) : (back2 l).ok := rd_ok o
/-- what is read out of as many bytes as the kind has is written as these -/
theorem fields_back {l : List Nat} (o : Oct l) (h : fits l = true) : (back l).fields = l.take (l.length - 2) := by
  unfold fits at h
  rw [decide_eq_true_eq] at h
  obtain ⟨h0, h1⟩ := h
  unfold sizeOf at h1
  by_cases hk : l.getD 0 0 = 1
  · rw [if_pos hk] at h1
    obtain ⟨c0, c1, c2, c3, c4, c5, c6, c7, c8, c9, d0, d1, rfl⟩ := list12 h1
    have o' : ∀ y ∈ [c0, c1, c2, c3, c4, c5, c6, c7, c8, c9, d0, d1], y < 256 := o
    simp only [List.mem_cons, List.not_mem_nil, or_false, forall_eq_or_imp, forall_eq] at o'
    obtain ⟨a0, a1, a2, a3, a4, a5, a6, a7, a8, a9, a10, a11⟩ := o'
    simp only [List.getD_cons_zero] at hk
    subst hk
    simp only [back, rd, List.getD_cons_zero, List.getD_cons_succ, List.length_cons, List.length_nil, Nat.reduceAdd, Nat.reduceSub, List.take_succ_cons, List.take_zero, decide_true, if_true, Fr.fields, Fr.tail, be4, List.cons_append, List.nil_append, List.cons.injEq, true_and, and_true]
    omega
  · rw [if_neg hk] at h1
    by_cases h2 : l.getD 0 0 = 2 ∨ l.getD 0 0 = 3
    · rw [if_pos h2] at h1
      obtain ⟨c0, c1, c2, c3, c4, c5, rfl⟩ := list6 h1
      have o' : ∀ y ∈ [c0, c1, c2, c3, c4, c5], y < 256 := o
      simp only [List.mem_cons, List.not_mem_nil, or_false, forall_eq_or_imp, forall_eq] at o'
      obtain ⟨a0, a1, a2, a3, a4, a5⟩ := o'
      simp only [List.getD_cons_zero] at hk
      simp only [back, rd, List.getD_cons_zero, List.getD_cons_succ, List.length_cons, List.length_nil, Nat.reduceAdd, Nat.reduceSub, List.take_succ_cons, List.take_zero, hk, decide_false, if_false, Bool.false_eq_true, Fr.fields, Fr.tail, List.append_nil, List.cons.injEq, true_and, and_true]
      omega
    · rw [if_neg h2] at h1; omega
theorem dec_some {l : List Nat} {f : Fr} (o : Oct l) (h : dec l = some f) : f.ok ∧ f.sound = true ∧ f.enc = l := by
  unfold dec at h
  by_cases hc : (fits l && checked l && (back l).sound) = true
  · rw [if_pos hc] at h
    simp only [Bool.and_eq_true] at hc
    obtain ⟨⟨h1, h2⟩, h3⟩ := hc
    cases h
    refine ⟨back_ok o, h3, ?_⟩
    unfold Fr.enc
    rw [fields_back o h1]
    unfold checked at h2
    exact of_decide_eq_true h2
  · rw [if_neg hc] at h; cases h
theorem dec_iff {l : List Nat} {f : Fr} (o : Oct l) (hf : f.ok) : dec l = some f ↔ f.sound = true ∧ f.enc = l :=
  ⟨fun h => (dec_some o h).2, fun ⟨h1, h2⟩ => h2 ▸ dec_enc hf h1⟩
theorem back2_enc {f : Fr} (h : f.ok) (hs : f.sound = true) : back2 f.enc = f := by
  have e : ∀ c : Bool, (c = true → f.k = 1) → rd c f.enc = rd c f.fields := by
    intro c hc
    have hl := fields_length f
    by_cases hk : c = true
    · have h1 := hc hk
      rw [if_pos h1] at hl
      unfold rd
      rw [if_pos hk, if_pos hk, enc_getD f 0 (by omega), enc_getD f 1 (by omega), enc_getD f 2 (by omega), enc_getD f 3 (by omega), enc_getD f 4 (by omega), enc_getD f 5 (by omega), enc_getD f 6 (by omega), enc_getD f 7 (by omega), enc_getD f 8 (by omega), enc_getD f 9 (by omega)]
    · have h4 : 4 ≤ f.fields.length := by rw [hl]; split <;> omega
      unfold rd
      rw [if_neg hk, if_neg hk, enc_getD f 0 (by omega), enc_getD f 1 (by omega), enc_getD f 2 (by omega), enc_getD f 3 (by omega)]
  unfold back2
  have hd : decide (f.enc.getD 0 0 = 1 ∧ 12 ≤ f.enc.length) = decide (f.k = 1) := by
    rw [enc_first, enc_length]
    by_cases hk : f.k = 1
    · simp [hk]
    · simp [hk]
  rw [hd, e _ (fun h => of_decide_eq_true h)]
  exact rd_fields h hs
theorem dec2_eq {l : List Nat} (o : Oct l) : dec2 l = dec l := by
  unfold dec2
  by_cases h : 6 ≤ l.length ∧ (back2 l).sound = true ∧ (back2 l).enc = l
  · rw [if_pos h]
    exact ((dec_iff o (back2_ok o)).2 h.2).symm
  · rw [if_neg h]
    cases hd : dec l with
    | none => rfl
    | some f =>
      obtain ⟨h1, h2, h3⟩ := dec_some o hd
      have hb := back2_enc h1 h2
      rw [h3] at hb
      exact absurd ⟨by rw [← h3]; exact (enc_long f).1, by rw [hb]; exact h2, by rw [hb]; exact h3⟩ h
theorem enc_inj {f g : Fr} (hf : f.ok) (hg : g.ok) (sf : f.sound = true) (sg : g.sound = true) (h : f.enc = g.enc) : f = g := by
  have h1 := dec_enc hf sf
  rw [h, dec_enc hg sg] at h1
  exact (Option.some.inj h1).symm
/-- no frame is of so many bytes -/
theorem dec_length {l : List Nat} (o : Oct l) (h : l.length ≠ 6) (h2 : l.length ≠ 12) : dec l = none := by
  cases hd : dec l with
  | none => rfl
  | some f =>
    obtain ⟨_, _, h3⟩ := dec_some o hd
    have := enc_length f
    rw [h3] at this
    split at this <;> omega
theorem dec_kind {l : List Nat} {f : Fr} (o : Oct l) (h : dec l = some f) : f.k = 1 ↔ l.length = 12 := by
  obtain ⟨_, _, h3⟩ := dec_some o h
  have := enc_length f
  rw [h3] at this
  by_cases hk : f.k = 1
  · simp [hk] at this; simp [hk, this]
  · simp [hk] at this; simp [hk, this]
/-- one byte that is another one -/
theorem dec_bent {f : Fr} (hf : f.ok) {k x : Nat} (hk : k < f.enc.length) (hx : x < 256) (h0 : x ≠ 0) : dec (f.enc.set k (f.enc.getD k 0 ^^^ x)) = none := by
  have o := enc_oct hf
  have o2 : Oct (f.enc.set k (f.enc.getD k 0 ^^^ x)) := by
    intro y hy
    rcases List.mem_or_eq_of_mem_set hy with hy | rfl
    · exact o y hy
    · refine xor_lt8 ?_ hx
      rw [getD_mem hk]
      exact o _ (List.getElem_mem hk)
  cases hd : dec (f.enc.set k (f.enc.getD k 0 ^^^ x)) with
  | none => rfl
  | some g =>
    obtain ⟨h1, _, h3⟩ := dec_some o2 hd
    refine absurd ?_ (crc_set o hk hx h0)
    rw [← h3]
    exact (check_zero (fields_oct hf)).trans (check_zero (fields_oct h1)).symm
theorem dec_nil : dec [] = none := rfl
/-- the chapter's example -/
theorem known_take : (Fr.enc ⟨2, 1, 258, 0, 0, 0⟩).take 4 = [2, 1, 1, 2] := rfl
theorem sized {l : List Nat} (h : fits l = true) : l.length = 6 ∧ l.getD 0 0 ≠ 1 ∨ l.length = 12 ∧ l.getD 0 0 = 1 := by
  unfold fits at h
  rw [decide_eq_true_eq] at h
  obtain ⟨h0, h1⟩ := h
  unfold sizeOf at h1
  by_cases hk : l.getD 0 0 = 1
  · rw [if_pos hk] at h1; exact .inr ⟨h1, hk⟩
  · rw [if_neg hk] at h1
    split at h1
    · exact .inl ⟨h1, hk⟩
    · omega
end Go.Proofs.Ytmllgbgcageccaa.Wire
