/-
  The program's pool and the document's side by side, their memory apart: a call on one leaves the other; what each answers, as functions of the slots and the stack. Conditions: none but that the pools are ones.
-/
import Derived.Test.YtmfjalnlfcbdlaaRefPool2
namespace Go.Proofs.Ytmfjalnlfcbdlaa
open Go.ChangeShapes Go.WideShapes Go.ChangeAt Go.RowKit
set_option linter.unusedVariables false

/-- slots and stack behind a Drop -/
def dS (S : List (Option Pk)) (z : Int) : List (Option Pk) := if (look S z).isSome then S.set z.toNat none else S
def dE (S : List (Option Pk)) (E : List Nat) (z : Int) : List Nat := if (look S z).isSome then E ++ [z.toNat] else E
/-- slots behind a Put -/
def pS (S : List (Option Pk)) (E : List Nat) (x : Pk) : List (Option Pk) := if E = [] then S else S.set (E.getLastD 0) (some x)
/-- pool p holds S, its stack E; the document's pool q holds T, its stack D; each its own memory, all of it new since w0 -/
def Both (w0 w : World) (p q n : Nat) (S : List (Option Pk)) (E : List Nat) (T : List (Option Pk)) (D : List Nat) : Prop :=
  ∃ F G : Nat → Prop, PoolAt w F p n S E ∧ RefAt w G q n T D ∧ (∀ k, F k → ¬ G k) ∧ (∀ k, F k → w0.heap.size ≤ k) ∧ (∀ k, G k → w0.heap.size ≤ k) ∧ Below w0.heap.size w0 w
section
variable {w0 w w' : World} {p q n : Nat} {S T : List (Option Pk)} {E D : List Nat}
theorem Both.on (h : Both w0 w p q n S E T D) (k : Below w.heap.size w w') : Both w0 w' p q n S E T D := by
  obtain ⟨F, G, h1, h2, h3, h4, h5, h6⟩ := h
  exact ⟨F, G, h1.below k, h2.below k, h3, h4, h5, later h6 k⟩
theorem Both.below (h : Both w0 w p q n S E T D) : Below w0.heap.size w0 w := by
  obtain ⟨F, G, h1, h2, h3, h4, h5, h6⟩ := h
  exact h6
theorem both_pool {F F' G : Nat → Prop} {S' : List (Option Pk)} {E' : List Nat} (h2 : RefAt w G q n T D) (h3 : ∀ k, F k → ¬ G k) (h4 : ∀ k, F k → w0.heap.size ≤ k) (h5 : ∀ k, G k → w0.heap.size ≤ k) (h6 : Below w0.heap.size w0 w) (h : PoolAt w' F' p n S' E') (g : Grows F w F' w') : Both w0 w' p q n S' E' T D :=
  ⟨F', G, h, h2.sans g.1 (fun k hk hf => h3 k hf hk), fun k hk hG => (g.2 k hk).elim (fun e => h3 k e hG) (fun e => by have := h2.foot k hG; omega),
    fun k hk => (g.2 k hk).elim (h4 k) (fun e => Nat.le_trans h6.size e), h5, h6.trans (g.1.below h6.size h4)⟩
theorem both_doc {F G : Nat → Prop} {T' : List (Option Pk)} {D' : List Nat} (h1 : PoolAt w F p n S E) (h3 : ∀ k, F k → ¬ G k) (h4 : ∀ k, F k → w0.heap.size ≤ k) (h5 : ∀ k, G k → w0.heap.size ≤ k) (h6 : Below w0.heap.size w0 w) (h : RefAt w' G q n T' D') (g : Sans G w w') : Both w0 w' p q n S E T' D' :=
  ⟨F, G, h1.sans g h3, h, h3, h4, h5, h6.trans (g.below h6.size h5)⟩
theorem b_drop (h : Both w0 w p q n S E T D) {z : Int} (hz : -9223372036854775808 ≤ z ∧ z ≤ 9223372036854775807) (c : Bool) (hc : (look S z).isSome = c) :
    Calls Try.prog 13 #[.pointer (some ⟨p, 0, none⟩), .int .i64 z] w fun e w' => e = .returned (.bool c) ∧ Both w0 w' p q n (dS S z) (dE S E z) T D := by
  have hh := h
  obtain ⟨F, G, h1, h2, h3, h4, h5, h6⟩ := h
  subst hc
  unfold dS dE
  cases hl : look S z with
  | none =>
    exact (drop_no h1 hz hl).mono fun e w' ⟨he, hw⟩ => ⟨he, by rw [hw]; simpa using hh⟩
  | some x =>
    obtain ⟨k, rfl, hk, hs⟩ := look_is hl
    exact (drop_yes h1 hs).mono fun e w' ⟨he, hP, hS⟩ => ⟨he, by simpa using both_pool h2 h3 h4 h5 h6 hP ⟨hS, fun k hk => .inl hk⟩⟩
theorem d_drop (h : Both w0 w p q n S E T D) {z : Int} (hz : -9223372036854775808 ≤ z ∧ z ≤ 9223372036854775807) (c : Bool) (hc : (look T z).isSome = c) :
    Calls Try.prog 16 #[.pointer (some ⟨q, 0, none⟩), .int .i64 z] w fun e w' => e = .returned (.bool c) ∧ Both w0 w' p q n S E (dS T z) (dE T D z) := by
  have hh := h
  obtain ⟨F, G, h1, h2, h3, h4, h5, h6⟩ := h
  subst hc
  unfold dS dE
  cases hl : look T z with
  | none =>
    exact (rdrop_no h2 hz hl).mono fun e w' ⟨he, hw⟩ => ⟨he, by rw [hw]; simpa using hh⟩
  | some x =>
    obtain ⟨k, rfl, hk, hs⟩ := look_is hl
    exact (rdrop_yes h2 hs).mono fun e w' ⟨he, hR, hS⟩ => ⟨he, by simpa using both_doc h1 h3 h4 h5 h6 hR hS⟩
theorem b_get (h : Both w0 w p q n S E T D) {z : Int} (hz : -9223372036854775808 ≤ z ∧ z ≤ 9223372036854775807) (c : Bool) (hc : (look S z).isSome = c) (xs xd xl xb : Int) (hx : (look S z).getD zpk = ⟨xs, xd, xl, xb⟩) :
    Calls Try.prog 11 #[.pointer (some ⟨p, 0, none⟩), .int .i64 z] w fun e w' => e = .returned (.tuple #[.agg #[.int .i64 xs, .int .i64 xd, .int .i64 xl, .int .u32 xb], .bool c]) ∧ Below w.heap.size w w' := by
  obtain ⟨F, G, h1, h2, h3, h4, h5, h6⟩ := h
  subst hc
  cases hl : look S z with
  | none =>
    rw [hl] at hx
    cases hx
    exact get_no h1 hz hl
  | some x =>
    rw [hl] at hx
    cases hx
    obtain ⟨k, rfl, hk, hs⟩ := look_is hl
    exact get_yes h1 hs
theorem d_get (h : Both w0 w p q n S E T D) {z : Int} (hz : -9223372036854775808 ≤ z ∧ z ≤ 9223372036854775807) (c : Bool) (hc : (look T z).isSome = c) (xs xd xl xb : Int) (hx : (look T z).getD zpk = ⟨xs, xd, xl, xb⟩) :
    Calls Try.prog 17 #[.pointer (some ⟨q, 0, none⟩), .int .i64 z] w fun e w' => e = .returned (.tuple #[.agg #[.int .i64 xs, .int .i64 xd, .int .i64 xl, .int .u32 xb], .bool c]) ∧ Below w.heap.size w w' := by
  obtain ⟨F, G, h1, h2, h3, h4, h5, h6⟩ := h
  subst hc
  cases hl : look T z with
  | none =>
    rw [hl] at hx
    cases hx
    exact rget_no h2 hz hl
  | some x =>
    rw [hl] at hx
    cases hx
    obtain ⟨k, rfl, hk, hs⟩ := look_is hl
    exact rget_yes h2 hs
theorem b_put (h : Both w0 w p q n S E T D) (a b c d : Int) (k : Nat) (hk : E.getLastD 0 = k) (t : Bool) (ht : (!E.isEmpty) = t) :
    Calls Try.prog 14 #[.pointer (some ⟨p, 0, none⟩), .agg #[.int .i64 a, .int .i64 b, .int .i64 c, .int .u32 d]] w fun e w' => e = .returned (.tuple #[.int .i64 k, .bool t]) ∧ Both w0 w' p q n (pS S E ⟨a, b, c, d⟩) E.dropLast T D := by
  have hh := h
  obtain ⟨F, G, h1, h2, h3, h4, h5, h6⟩ := h
  subst hk ht
  unfold pS
  rcases List.eq_nil_or_concat E with rfl | ⟨E', k, rfl⟩
  · exact (put_none h1 a b c d).mono fun e w' ⟨he, hb⟩ => ⟨he, by simpa using hh.on hb⟩
  · rw [List.concat_eq_append] at h1 ⊢
    refine (put_some h1 a b c d).mono fun e w' ⟨he, F', hP, hg⟩ => ⟨?_, ?_⟩
    · rw [he]; simp
    · simpa using both_pool h2 h3 h4 h5 h6 hP hg
theorem d_put (h : Both w0 w p q n S E T D) (a b c d : Int) (k : Nat) (hk : D.getLastD 0 = k) (t : Bool) (ht : (!D.isEmpty) = t) :
    Calls Try.prog 18 #[.pointer (some ⟨q, 0, none⟩), .agg #[.int .i64 a, .int .i64 b, .int .i64 c, .int .u32 d]] w fun e w' => e = .returned (.tuple #[.int .i64 k, .bool t]) ∧ Both w0 w' p q n S E (pS T D ⟨a, b, c, d⟩) D.dropLast := by
  have hh := h
  obtain ⟨F, G, h1, h2, h3, h4, h5, h6⟩ := h
  subst hk ht
  unfold pS
  rcases List.eq_nil_or_concat D with rfl | ⟨E', k, rfl⟩
  · exact (rput_none h2 a b c d).mono fun e w' ⟨he, hb⟩ => ⟨he, by simpa using hh.on hb⟩
  · rw [List.concat_eq_append] at h2 ⊢
    refine (rput_some h2 a b c d).mono fun e w' ⟨he, hR, hg⟩ => ⟨?_, ?_⟩
    · rw [he]; simp
    · simpa using both_doc h1 h3 h4 h5 h6 hR hg
theorem b_free (h : Both w0 w p q n S E T D) (m : Nat) (hm : E.length = m) :
    Calls Try.prog 12 #[.pointer (some ⟨p, 0, none⟩)] w fun e w' => e = .returned (.int .i64 m) ∧ w' = w := by
  obtain ⟨F, G, h1, _⟩ := h
  exact free_any h1 m hm
theorem d_free (h : Both w0 w p q n S E T D) (m : Nat) (hm : D.length = m) :
    Calls Try.prog 19 #[.pointer (some ⟨q, 0, none⟩)] w fun e w' => e = .returned (.int .i64 m) ∧ w' = w := by
  obtain ⟨F, G, _, h2, _⟩ := h
  exact rfree_any h2 m hm
end
end Go.Proofs.Ytmfjalnlfcbdlaa
