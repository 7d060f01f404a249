/-
  A pool of the call's own: what each function of package pool comes to on it; and the helper known of package shunterlaw07. Conditions: none but that the pool is one.
-/
import Derived.Test.YtmfjalnlfcbdlaaPoolC
namespace Go.Proofs.Ytmfjalnlfcbdlaa
open Go.ChangeShapes Go.WideShapes Go.ChangeAt Go.RowKit
set_option linter.unusedVariables false

/-- the call's own pool, new since w0 (what was there then is as it was), none of it in blocks of G -/
def Mine (G : Nat → Prop) (w0 w : World) (p n : Nat) (S : List (Option Pk)) (E : List Nat) : Prop := ∃ F, PoolAt w F p n S E ∧ (∀ k, F k → w0.heap.size ≤ k ∧ ¬ G k) ∧ Below w0.heap.size w0 w
section
variable {G : Nat → Prop} {w0 w w' : World} {p n : Nat} {S S' : List (Option Pk)} {E E' : List Nat}
theorem Mine.on (m : Mine G w0 w p n S E) (k : Below w.heap.size w w') : Mine G w0 w' p n S E := by
  obtain ⟨F, h1, h2, h3⟩ := m
  exact ⟨F, h1.below k, h2, later h3 k⟩
theorem Mine.side (m : Mine G w0 w p n S E) (k : Sans G w w') (hG : ∀ k, G k → w0.heap.size ≤ k) : Mine G w0 w' p n S E := by
  obtain ⟨F, h1, h2, h3⟩ := m
  exact ⟨F, h1.sans k (fun j hj => (h2 j hj).2), h2, h3.trans (k.below h3.size hG)⟩
theorem Mine.below (m : Mine G w0 w p n S E) : Below w0.heap.size w0 w := by
  obtain ⟨F, h1, h2, h3⟩ := m
  exact h3
theorem Mine.inv (m : Mine G w0 w p n S E) : Inv n S E := by
  obtain ⟨F, h1, h2, h3⟩ := m
  exact h1.inv
/-- with other blocks, which it is apart from -/
theorem Mine.wider {G' : Nat → Prop} (m : Mine G w0 w p n S E) (h : ∀ k, G' k → G k ∨ w.heap.size ≤ k) : Mine G' w0 w p n S E := by
  obtain ⟨F, h1, h2, h3⟩ := m
  exact ⟨F, h1, fun k hk => ⟨(h2 k hk).1, fun e => (h k e).elim (h2 k hk).2 (fun e => by have := h1.foot k hk; omega)⟩, h3⟩
theorem Mine.step {F F' : Nat → Prop} (h3 : Below w0.heap.size w0 w) (h2 : ∀ k, F k → w0.heap.size ≤ k ∧ ¬ G k) (hG : ∀ k, G k → k < w.heap.size) (h : PoolAt w' F' p n S' E') (hg : Grows F w F' w') : Mine G w0 w' p n S' E' ∧ Sans (fun k => ¬ G k) w w' :=
  ⟨⟨F', h, fun k hk => (hg.2 k hk).elim (h2 k) (fun e => ⟨Nat.le_trans h3.size e, fun e2 => by have := hG k e2; omega⟩), h3.trans (hg.1.below h3.size (fun k hk => (h2 k hk).1))⟩, hg.1.mono (fun k hk => (h2 k hk).2)⟩
theorem m_new (n : Nat) (h : 1 ≤ n ∧ n ≤ 200) (hb : Below w0.heap.size w0 w) (hG : ∀ k, G k → k < w.heap.size) :
    Calls Try.prog 9 #[.int .i64 n] w fun e w' => ∃ p, e = .returned (.pointer (some ⟨p, 0, none⟩)) ∧ Mine G w0 w' p n (none_ n) (down n) ∧ Below w.heap.size w w' :=
  (new_good n h w).mono fun e w' ⟨p, F, he, hP, hB, hF⟩ => ⟨p, he, ⟨F, hP, fun k hk => ⟨Nat.le_trans hb.size (hF k hk), fun e => by have := hF k hk; have := hG k e; omega⟩, later hb hB⟩, hB⟩
theorem m_free (m : Mine G w0 w p n S E) (j : Nat) (hj : E.length = j) :
    Calls Try.prog 12 #[.pointer (some ⟨p, 0, none⟩)] w fun e w' => e = .returned (.int .i64 j) ∧ w' = w := by
  obtain ⟨F, h1, h2, h3⟩ := m
  exact free_any h1 j hj
theorem m_get_no (m : Mine G w0 w p n S E) {z : Int} (hz : -9223372036854775808 ≤ z ∧ z ≤ 9223372036854775807) (hk : look S z = none) :
    Calls Try.prog 11 #[.pointer (some ⟨p, 0, none⟩), .int .i64 z] w fun e w' => e = .returned (.tuple #[.agg #[.int .i64 0, .int .i64 0, .int .i64 0, .int .u32 0], .bool false]) ∧ Mine G w0 w' p n S E ∧ Below w.heap.size w w' := by
  have mm := m
  obtain ⟨F, h1, h2, h3⟩ := m
  exact (get_no h1 hz hk).mono fun e w' ⟨he, hb⟩ => ⟨he, mm.on hb, hb⟩
theorem m_get_yes (m : Mine G w0 w p n S E) {k : Nat} {x : Pk} (hk : S[k]? = some (some x)) :
    Calls Try.prog 11 #[.pointer (some ⟨p, 0, none⟩), .int .i64 k] w fun e w' => e = .returned (.tuple #[.agg #[.int .i64 x.s, .int .i64 x.d, .int .i64 x.l, .int .u32 x.b], .bool true]) ∧ Mine G w0 w' p n S E ∧ Below w.heap.size w w' := by
  have mm := m
  obtain ⟨F, h1, h2, h3⟩ := m
  exact (get_yes h1 hk).mono fun e w' ⟨he, hb⟩ => ⟨he, mm.on hb, hb⟩
theorem m_drop_no (m : Mine G w0 w p n S E) {z : Int} (hz : -9223372036854775808 ≤ z ∧ z ≤ 9223372036854775807) (hk : look S z = none) :
    Calls Try.prog 13 #[.pointer (some ⟨p, 0, none⟩), .int .i64 z] w fun e w' => e = .returned (.bool false) ∧ w' = w := by
  obtain ⟨F, h1, h2, h3⟩ := m
  exact drop_no h1 hz hk
theorem m_drop_yes (m : Mine G w0 w p n S E) (hG : ∀ k, G k → k < w.heap.size) {k : Nat} {x : Pk} (hk : S[k]? = some (some x)) :
    Calls Try.prog 13 #[.pointer (some ⟨p, 0, none⟩), .int .i64 k] w fun e w' => e = .returned (.bool true) ∧ Mine G w0 w' p n (S.set k none) (E ++ [k]) ∧ Sans (fun k => ¬ G k) w w' := by
  obtain ⟨F, h1, h2, h3⟩ := m
  exact (drop_yes h1 hk).mono fun e w' ⟨he, hP, hS⟩ => ⟨he, Mine.step h3 h2 hG hP ⟨hS, fun k hk => .inl hk⟩⟩
theorem m_put_none (m : Mine G w0 w p n S []) (a b c d : Int) :
    Calls Try.prog 14 #[.pointer (some ⟨p, 0, none⟩), .agg #[.int .i64 a, .int .i64 b, .int .i64 c, .int .u32 d]] w fun e w' => e = .returned (.tuple #[.int .i64 0, .bool false]) ∧ Mine G w0 w' p n S [] ∧ Below w.heap.size w w' := by
  have mm := m
  obtain ⟨F, h1, h2, h3⟩ := m
  exact (put_none h1 a b c d).mono fun e w' ⟨he, hb⟩ => ⟨he, mm.on hb, hb⟩
theorem m_put_some {k : Nat} (m : Mine G w0 w p n S (E ++ [k])) (hG : ∀ k, G k → k < w.heap.size) (a b c d : Int) :
    Calls Try.prog 14 #[.pointer (some ⟨p, 0, none⟩), .agg #[.int .i64 a, .int .i64 b, .int .i64 c, .int .u32 d]] w fun e w' => e = .returned (.tuple #[.int .i64 k, .bool true]) ∧ Mine G w0 w' p n (S.set k (some ⟨a, b, c, d⟩)) E ∧ Sans (fun k => ¬ G k) w w' := by
  obtain ⟨F, h1, h2, h3⟩ := m
  exact (put_some h1 a b c d).mono fun e w' ⟨he, F', hP, hg⟩ => ⟨he, Mine.step h3 h2 hG hP hg⟩
end
abbrev Solo : World → World → Nat → Nat → List (Option Pk) → List Nat → Prop := Mine (fun _ => False)
theorem nothing {w : World} : ∀ k : Nat, (fun _ : Nat => False) k → k < w.heap.size := fun _ e => e.elim
set_option maxRecDepth 100000 in
set_option maxHeartbeats 1000000 in
theorem known_any (w : World) : Calls Try.prog 10 #[] w fun e w' => e = .returned (.bool true) ∧ Below w.heap.size w w' := by
  go_enter Try.func10, Try.ntmps10
  go_wp2_with fail
  refine (m_new (w0 := w) 3 (by omega) (Below.refl _ _) (G := fun _ => False) nothing).mono ?_
  rintro e w1 ⟨p, rfl, m1, _⟩
  have H1 : Hid (Solo w w1 p 3 [none, none, none] ([2, 1] ++ [0])) := m1
  clear m1
  go_wp2_with fail
  refine (m_put_some H1.out nothing 0 0 0 1).mono ?_
  rintro e w2 ⟨rfl, m2, _⟩
  have H2 : Hid (Solo w w2 p 3 [some ⟨0, 0, 0, 1⟩, none, none] ([2] ++ [1])) := m2
  clear m2 H1
  go_wp2_with fail
  refine (m_put_some H2.out nothing 0 0 0 2).mono ?_
  rintro e w3 ⟨rfl, m3, _⟩
  have H3 : Hid (Solo w w3 p 3 [some ⟨0, 0, 0, 1⟩, some ⟨0, 0, 0, 2⟩, none] [2]) := m3
  clear m3 H2
  go_wp2_with fail
  refine (m_drop_yes H3.out nothing (k := 0) rfl).mono ?_
  rintro e w4 ⟨rfl, m4, _⟩
  have H4 : Hid (Solo w w4 p 3 [none, some ⟨0, 0, 0, 2⟩, none] ([2] ++ [0])) := m4
  clear m4 H3
  go_wp2_with fail
  refine (m_put_some H4.out nothing 0 0 0 3).mono ?_
  rintro e w5 ⟨rfl, m5, _⟩
  have H5 : Hid (Solo w w5 p 3 [some ⟨0, 0, 0, 3⟩, some ⟨0, 0, 0, 2⟩, none] ([] ++ [2])) := m5
  clear m5 H4
  go_wp2_with fail
  refine (m_put_some H5.out nothing 0 0 0 4).mono ?_
  rintro e w6 ⟨rfl, m6, _⟩
  have H6 : Hid (Solo w w6 p 3 [some ⟨0, 0, 0, 3⟩, some ⟨0, 0, 0, 2⟩, some ⟨0, 0, 0, 4⟩] []) := m6
  clear m6 H5
  go_wp2_with fail
  refine (m_get_yes H6.out (k := 0) rfl).mono ?_
  rintro e w7 ⟨rfl, m7, _⟩
  have H7 : Hid (Solo w w7 p 3 [some ⟨0, 0, 0, 3⟩, some ⟨0, 0, 0, 2⟩, some ⟨0, 0, 0, 4⟩] []) := m7
  clear m7 H6
  dsimp only
  go_wp2_with fail
  refine (m_free (H7.out.on (fresh _ _)) 0 rfl).mono ?_
  rintro e w8 ⟨rfl, hw8⟩
  have H8 : Hid (Below w.heap.size w w8) := by rw [hw8]; exact later H7.out.below (fresh _ _)
  clear hw8 H7
  go_wp2_with fail
  refine (new_bad 0 (by omega) (by omega) _).mono ?_
  rintro e w9 ⟨rfl, rfl⟩
  go_wp2_with fail
  go_ret
  exact ⟨rfl, H8.out⟩
end Go.Proofs.Ytmfjalnlfcbdlaa
