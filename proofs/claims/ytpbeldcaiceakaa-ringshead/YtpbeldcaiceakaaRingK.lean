/-
  Rings of the call's own: what each function of package rings comes to on them; and the helper known of package shunterlaw08. Conditions: none but that the rings are such.
-/
import Derived.Test.YtpbeldcaiceakaaRingJ
namespace Go.Proofs.Ytpbeldcaiceakaa
open Go.ChangeShapes Go.WideShapes Go.ChangeAt Go.RowKit
set_option linter.unusedVariables false

/-- the call's own rings, new since w0 (what was there then is as it was), none of it in blocks of G -/
def Mine (G : Nat → Prop) (w0 w : World) (p P L n t c : Nat) (Qs : Pl → List Pk) : Prop := ∃ F, RAt w F p P L n t c Qs ∧ (∀ k, F k → w0.heap.size ≤ k ∧ ¬ G k) ∧ Below w0.heap.size w0 w
section
variable {G : Nat → Prop} {w0 w w' : World} {p P L n t c t' c' : Nat} {Qs Qs' : Pl → List Pk}
theorem Mine.on (m : Mine G w0 w p P L n t c Qs) (k : Below w.heap.size w w') : Mine G w0 w' p P L n t c Qs := by
  obtain ⟨F, h1, h2, h3⟩ := m
  exact ⟨F, h1.below k, h2, later h3 k⟩
theorem Mine.side (m : Mine G w0 w p P L n t c Qs) (k : Sans G w w') (hG : ∀ k, G k → w0.heap.size ≤ k) : Mine G w0 w' p P L n t c Qs := by
  obtain ⟨F, h1, h2, h3⟩ := m
  exact ⟨F, h1.sans k (fun j hj => (h2 j hj).2), h2, h3.trans (k.below h3.size hG)⟩
theorem Mine.below (m : Mine G w0 w p P L n t c Qs) : Below w0.heap.size w0 w := by
  obtain ⟨F, h1, h2, h3⟩ := m
  exact h3
theorem Mine.mono (m : Mine G w0 w p P L n t c Qs) (hc : c ≤ c') : Mine G w0 w p P L n t c' Qs := by
  obtain ⟨F, h1, h2, h3⟩ := m
  exact ⟨F, h1.mono hc, h2, h3⟩
theorem Mine.pos (m : Mine G w0 w p P L n t c Qs) {q : Pl} (hq : Qs q ≠ []) : 1 ≤ t := by
  obtain ⟨F, h1, h2, h3⟩ := m
  exact h1.pos hq
theorem Mine.top (m : Mine G w0 w p P L n t c Qs) : t ≤ n := by
  obtain ⟨F, h1, h2, h3⟩ := m
  exact h1.top
/-- with other blocks, which it is apart from -/
theorem Mine.wider {G' : Nat → Prop} (m : Mine G w0 w p P L n t c Qs) (h : ∀ k, G' k → G k ∨ w.heap.size ≤ k) : Mine G' w0 w p P L n t c Qs := by
  obtain ⟨F, h1, h2, h3⟩ := m
  exact ⟨F, h1, fun k hk => ⟨(h2 k hk).1, fun e => (h k e).elim (h2 k hk).2 (fun e => by have := h1.foot k hk; omega)⟩, h3⟩
theorem Mine.step {F F' : Nat → Prop} (h3 : Below w0.heap.size w0 w) (h2 : ∀ k, F k → w0.heap.size ≤ k ∧ ¬ G k) (hG : ∀ k, G k → k < w.heap.size) (h : RAt w' F' p P L n t' c' Qs') (hg : Grows F w F' w') : Mine G w0 w' p P L n t' c' Qs' ∧ Sans (fun k => ¬ G k) w w' :=
  ⟨⟨F', h, fun k hk => (hg.2 k hk).elim (h2 k) (fun e => ⟨Nat.le_trans h3.size e, fun e2 => by have := hG k e2; omega⟩), h3.trans (hg.1.below h3.size (fun k hk => (h2 k hk).1))⟩, hg.1.mono (fun k hk => (h2 k hk).2)⟩
theorem m_new (P L n : Nat) (hP : 1 ≤ P ∧ P ≤ 16) (hL : 1 ≤ L ∧ L ≤ 3) (hn : 1 ≤ n ∧ n ≤ 200) (hb : Below w0.heap.size w0 w) (hG : ∀ k, G k → k < w.heap.size) :
    Calls Try.prog 8 #[.int .i64 P, .int .i64 L, .int .i64 n] w fun e w' => ∃ p, e = .returned (.pointer (some ⟨p, 0, none⟩)) ∧ Mine G w0 w' p P L n 0 0 (fun _ => []) ∧ Below w.heap.size w w' :=
  (r_new_good P L n hP hL hn w).mono fun e w' ⟨p, F, he, hR, hB, hF⟩ => ⟨p, he, ⟨F, hR, fun k hk => ⟨Nat.le_trans hb.size (hF k hk), fun e => by have := hF k hk; have := hG k e; omega⟩, later hb hB⟩, hB⟩
theorem m_len (m : Mine G w0 w p P L n t c Qs) (i o l : Int) (hq : Wf (i, o, l)) (j : Nat) (hj : (Qs (i, o, l)).length = j) :
    Calls Try.prog 11 #[.pointer (some ⟨p, 0, none⟩), .int .i64 i, .int .i64 o, .int .i64 l] w fun e w' => e = .returned (.int .i64 j) ∧ w' = w := by
  obtain ⟨F, h1, h2, h3⟩ := m
  exact len_any h1 i o l hq j hj
theorem m_head (m : Mine G w0 w p P L n t c Qs) (i o l : Int) (hq : Wf (i, o, l)) (x : Pk) (b : Bool) (hx : hd (Qs (i, o, l)) = x) (hb : (!(Qs (i, o, l)).isEmpty) = b) :
    Calls Try.prog 10 #[.pointer (some ⟨p, 0, none⟩), .int .i64 i, .int .i64 o, .int .i64 l] w fun e w' => e = .returned (.tuple #[.agg #[.int .i64 x.s, .int .i64 x.d, .int .i64 x.l, .int .u32 x.b], .bool b]) ∧ Mine G w0 w' p P L n t c Qs ∧ Below w.heap.size w w' := by
  have mm := m
  obtain ⟨F, h1, h2, h3⟩ := m
  exact (head_any h1 i o l hq x b hx hb).mono fun e w' ⟨he, hb⟩ => ⟨he, mm.on hb, hb⟩
theorem m_all (m : Mine G w0 w p P L n t c Qs) (hc : c < 1000) (i o l : Int) (hq : Wf (i, o, l)) (xs : List Pk) (hxs : Qs (i, o, l) = xs) :
    Calls Try.prog 19 #[.pointer (some ⟨p, 0, none⟩), .int .i64 i, .int .i64 o, .int .i64 l] w fun e w' => ∃ v, e = .returned v ∧ PRow w' w.heap.size v xs ∧ Mine G w0 w' p P L n t c Qs ∧ Below w.heap.size w w' := by
  have mm := m
  obtain ⟨F, h1, h2, h3⟩ := m
  exact (all_any h1 hc i o l hq xs hxs).mono fun e w' ⟨v, he, hr, hb⟩ => ⟨v, he, hr, mm.on hb, hb⟩
theorem m_push (m : Mine G w0 w p P L n t c Qs) (hG : ∀ k, G k → k < w.heap.size) (hc : c < 1000) (i o l : Int) (hq : Wf (i, o, l)) (x : Pk) (b : Bool) (hb : takes P L n t (i, o, l) = b) :
    Calls Try.prog 12 #[.pointer (some ⟨p, 0, none⟩), .int .i64 i, .int .i64 o, .int .i64 l, .agg #[.int .i64 x.s, .int .i64 x.d, .int .i64 x.l, .int .u32 x.b]] w fun e w' => e = .returned (.bool b) ∧ Mine G w0 w' p P L n (pushT b t) (c + 1) (pushQ b Qs (i, o, l) x) ∧ Sans (fun k => ¬ G k) w w' := by
  obtain ⟨F, h1, h2, h3⟩ := m
  exact (rpush_any h1 hc i o l hq x b hb).mono fun e w' ⟨he, F', hR, hg⟩ => ⟨he, Mine.step h3 h2 hG hR hg⟩
theorem m_pop (m : Mine G w0 w p P L n t c Qs) (hG : ∀ k, G k → k < w.heap.size) (hc : c < 1000) (i o l : Int) (hq : Wf (i, o, l)) (x : Pk) (b : Bool) (hx : hd (Qs (i, o, l)) = x) (hb : (!(Qs (i, o, l)).isEmpty) = b) :
    Calls Try.prog 14 #[.pointer (some ⟨p, 0, none⟩), .int .i64 i, .int .i64 o, .int .i64 l] w fun e w' => e = .returned (.tuple #[.agg #[.int .i64 x.s, .int .i64 x.d, .int .i64 x.l, .int .u32 x.b], .bool b]) ∧ Mine G w0 w' p P L n (popT b t) (c + 1) (upd Qs (i, o, l) (Qs (i, o, l)).tail) ∧ Sans (fun k => ¬ G k) w w' := by
  obtain ⟨F, h1, h2, h3⟩ := m
  exact (rpop_any h1 hc i o l hq x b hx hb).mono fun e w' ⟨he, hR, hs⟩ => ⟨he, Mine.step h3 h2 hG hR ⟨hs, fun k hk => .inl hk⟩⟩
end
abbrev Solo : World → World → Nat → Nat → Nat → Nat → Nat → Nat → (Pl → List Pk) → Prop := Mine (fun _ => False)
theorem nothing {w : World} : ∀ k : Nat, (fun _ : Nat => False) k → k < w.heap.size := fun _ e => e.elim
theorem wfSmall {i o l : Int} (h : -1000 ≤ i ∧ i ≤ 1000 ∧ -1000 ≤ o ∧ o ≤ 1000 ∧ -1000 ≤ l ∧ l ≤ 1000) : Wf (i, o, l) := by
  obtain ⟨h1, h2, h3, h4, h5, h6⟩ := h
  refine ⟨⟨?_, ?_⟩, ⟨?_, ?_⟩, ⟨?_, ?_⟩⟩ <;> simp only <;> omega
theorem PRow.shape {w : World} {base : Nat} {v : Value} {xs : List Pk} (h : PRow w base v xs) : ∃ a cap, v = .slice a xs.length cap := by
  rcases h.2 with ⟨rfl, h0⟩ | ⟨g, cap, cur, rfl, _⟩
  · exact ⟨none, 0, by rw [h0]⟩
  · exact ⟨_, cap, rfl⟩
set_option maxRecDepth 100000 in
set_option maxHeartbeats 1000000 in
theorem known_any (w : World) : Calls Try.prog 9 #[] w fun e w' => e = .returned (.bool true) ∧ Below w.heap.size w w' := by
  go_enter Try.func9, Try.ntmps9
  go_wp2_with fail
  refine (m_new (w0 := w) 2 1 5 (by omega) (by omega) (by omega) (Below.refl _ _) (G := fun _ => False) nothing).mono ?_
  rintro e w1 ⟨p, rfl, m1, _⟩
  have H1 : Hid (Solo w w1 p 2 1 5 0 0 (fun _ => [])) := m1
  clear m1
  go_wp2_with fail
  refine (m_push H1.out nothing (by omega) 0 1 0 (wfSmall (by omega)) ⟨0, 0, 0, 1⟩ true rfl).mono ?_
  rintro e w2 ⟨rfl, m2, _⟩
  have H2 : Hid (Solo w w2 p 2 1 5 1 1 (upd (fun _ => []) (0, 1, 0) [⟨0, 0, 0, 1⟩])) := m2
  clear m2 H1
  go_wp2_with fail
  refine (m_push H2.out nothing (by omega) 0 1 0 (wfSmall (by omega)) ⟨0, 0, 0, 2⟩ true rfl).mono ?_
  rintro e w3 ⟨rfl, m3, _⟩
  obtain ⟨Q3, hQ3⟩ : ∃ Q3, pushQ true (upd (fun _ => []) (0, 1, 0) [⟨0, 0, 0, 1⟩]) (0, 1, 0) ⟨0, 0, 0, 2⟩ = Q3 := ⟨_, rfl⟩
  rw [hQ3] at m3
  have q3 : Q3 (0, 1, 0) = [⟨0, 0, 0, 1⟩, ⟨0, 0, 0, 2⟩] := by rw [← hQ3]; rfl
  have q3' : Q3 (1, 0, 0) = [] := by rw [← hQ3]; rfl
  have H3 : Hid (Solo w w3 p 2 1 5 2 2 Q3 ∧ Q3 (0, 1, 0) = [⟨0, 0, 0, 1⟩, ⟨0, 0, 0, 2⟩] ∧ Q3 (1, 0, 0) = []) := ⟨m3, q3, q3'⟩
  clear m3 H2 hQ3 q3 q3'
  go_wp2_with fail
  refine (m_pop H3.out.1 nothing (by omega) 0 1 0 (wfSmall (by omega)) ⟨0, 0, 0, 1⟩ true (by rw [H3.out.2.1]; rfl) (by rw [H3.out.2.1]; rfl)).mono ?_
  rintro e w4 ⟨rfl, m4, _⟩
  obtain ⟨Q4, hQ4⟩ : ∃ Q4, upd Q3 (0, 1, 0) (Q3 (0, 1, 0)).tail = Q4 := ⟨_, rfl⟩
  rw [hQ4] at m4
  have q4 : Q4 (0, 1, 0) = [⟨0, 0, 0, 2⟩] := by rw [← hQ4, upd_same, H3.out.2.1]; rfl
  have q4' : Q4 (1, 0, 0) = [] := by rw [← hQ4, upd_other _ _ (by decide)]; exact H3.out.2.2
  have H4 : Hid (Solo w w4 p 2 1 5 1 3 Q4 ∧ Q4 (0, 1, 0) = [⟨0, 0, 0, 2⟩] ∧ Q4 (1, 0, 0) = []) := ⟨m4, q4, q4'⟩
  clear m4 H3 hQ4 q4 q4'
  dsimp only
  go_wp2_with fail
  have H5 : Hid (Solo w (w4.alloc (.cells #[.int .i64 0, .int .i64 0, .int .i64 0, .int .u32 1] 27)) p 2 1 5 1 3 Q4 ∧ Q4 (0, 1, 0) = [⟨0, 0, 0, 2⟩] ∧ Q4 (1, 0, 0) = []) := ⟨H4.out.1.on (fresh _ _), H4.out.2⟩
  clear H4
  refine (m_len H5.out.1 0 1 0 (wfSmall (by omega)) 1 (by rw [H5.out.2.1]; rfl)).mono ?_
  rintro e w5 ⟨rfl, hw5⟩
  rw [← hw5] at H5
  clear hw5
  go_wp2_with fail
  refine (m_all H5.out.1 (by omega) 0 1 0 (wfSmall (by omega)) _ H5.out.2.1).mono ?_
  rintro e w6 ⟨v, rfl, hr, m6, _⟩
  obtain ⟨a, cap, rfl⟩ := hr.shape
  have H6 : Hid (Solo w w6 p 2 1 5 1 3 Q4 ∧ Q4 (1, 0, 0) = []) := ⟨m6, H5.out.2.2⟩
  clear m6 H5 hr
  go_wp2_with fail
  refine (m_len H6.out.1 1 0 0 (wfSmall (by omega)) 0 (by rw [H6.out.2]; rfl)).mono ?_
  rintro e w7 ⟨rfl, hw7⟩
  rw [← hw7] at H6
  clear hw7
  go_wp2_with fail
  refine (r_new_bad 0 1 1 (by unfold I64; omega) (by unfold I64; omega) (by unfold I64; omega) (by omega) _).mono ?_
  rintro e w8 ⟨rfl, hb8⟩
  go_wp2_with fail
  go_ret
  exact ⟨rfl, later H6.out.1.below hb8⟩
end Go.Proofs.Ytpbeldcaiceakaa
