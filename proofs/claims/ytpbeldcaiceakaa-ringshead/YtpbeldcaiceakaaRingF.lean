/-
  Package rings, as it landed: New, Push, Head, Pop, Len, over rings whose memory is their own. Conditions: none but that the rings are such.
-/
import Derived.Test.YtpbeldcaiceakaaRingE
namespace Go.Proofs.Ytpbeldcaiceakaa
open Go.ChangeShapes Go.WideShapes Go.ChangeAt Go.RowKit
set_option linter.unusedVariables false

/-- block p holds rings of P ports and L lanes, of n slots, t of them filled; Qs: the queues; all its memory is in F -/
def RAt (w : World) (F : Nat → Prop) (p P L n t c : Nat) (Qs : Pl → List Pk) : Prop := ∃ G pp mb S E V sl, RIn w F G p pp mb P L n S E c V sl Qs ∧ E.length + t = n ∧ 1 ≤ P ∧ P ≤ 16 ∧ 1 ≤ L ∧ L ≤ 3
theorem RAt.sans {w w' : World} {F H : Nat → Prop} {p P L n t c : Nat} {Qs : Pl → List Pk} (h : RAt w F p P L n t c Qs) (k : Sans H w w') (hd : ∀ k, F k → ¬ H k) : RAt w' F p P L n t c Qs := by
  obtain ⟨G, pp, mb, S, E, V, sl, h1, h2⟩ := h
  exact ⟨G, pp, mb, S, E, V, sl, h1.sans k hd, h2⟩
theorem RAt.below {w w' : World} {F : Nat → Prop} {p P L n t c : Nat} {Qs : Pl → List Pk} (h : RAt w F p P L n t c Qs) (k : Below w.heap.size w w') : RAt w' F p P L n t c Qs := h.sans (H := fun _ => False) (Sans.of_below k) (fun _ _ e => e)
theorem RAt.foot {w : World} {F : Nat → Prop} {p P L n t c : Nat} {Qs : Pl → List Pk} (h : RAt w F p P L n t c Qs) : ∀ k, F k → k < w.heap.size := by
  obtain ⟨G, pp, mb, S, E, V, sl, h1, h2⟩ := h
  exact h1.foot
theorem RAt.mono {w : World} {F : Nat → Prop} {p P L n t c c' : Nat} {Qs : Pl → List Pk} (h : RAt w F p P L n t c Qs) (hc : c ≤ c') : RAt w F p P L n t c' Qs := by
  obtain ⟨G, pp, mb, S, E, V, sl, h, h2⟩ := h
  exact ⟨G, pp, mb, S, E, V, sl, ⟨h.foot, h.fp, h.fm, h.fG, h.pm, h.pG, h.mG, h.c0, h.c1, h.c2, h.c3, h.c4, h.pool, h.map.mono hc, h.row, h.blk, h.one, fun q => Nat.le_trans (h.len q) hc, h.held, h.once⟩, h2⟩
def inside (P L : Nat) (q : Pl) : Prop := (0 ≤ q.1 ∧ q.1 < P) ∧ (0 ≤ q.2.1 ∧ q.2.1 < P) ∧ (0 ≤ q.2.2 ∧ q.2.2 < L)
set_option maxHeartbeats 1000000 in
theorem within_yes (P L : Nat) (i o l : Int) (h : inside P L (i, o, l)) (w : World) :
    Calls Try.prog 23 #[.agg #[.int .i64 i, .int .i64 o, .int .i64 l], .agg #[.int .i64 P, .int .i64 P, .int .i64 L]] w fun e w' => e = .returned (.bool true) ∧ Below w.heap.size w w' := by
  obtain ⟨⟨h1, h2⟩, ⟨h3, h4⟩, ⟨h5, h6⟩⟩ := h
  simp only at h1 h2 h3 h4 h5 h6
  go_enter Try.func23, Try.ntmps23
  go_wp2_with fail
  go_ret
  exact ⟨rfl, later (fresh _ _) (fresh _ _)⟩
set_option maxHeartbeats 1000000 in
theorem within_no (P L : Nat) (i o l : Int) (h : ¬ inside P L (i, o, l)) (w : World) :
    Calls Try.prog 23 #[.agg #[.int .i64 i, .int .i64 o, .int .i64 l], .agg #[.int .i64 P, .int .i64 P, .int .i64 L]] w fun e w' => e = .returned (.bool false) ∧ Below w.heap.size w w' := by
  by_cases h1 : 0 ≤ i
  · by_cases h2 : i < P
    · by_cases h3 : 0 ≤ o
      · by_cases h4 : o < P
        · by_cases h5 : 0 ≤ l
          · by_cases h6 : l < L
            · exact absurd ⟨⟨h1, h2⟩, ⟨h3, h4⟩, ⟨h5, h6⟩⟩ h
            · clear h
              go_enter Try.func23, Try.ntmps23
              go_wp2_with fail
              go_ret
              exact ⟨rfl, later (fresh _ _) (fresh _ _)⟩
          · clear h
            go_enter Try.func23, Try.ntmps23
            go_wp2_with fail
            go_ret
            exact ⟨rfl, later (fresh _ _) (fresh _ _)⟩
        · clear h
          go_enter Try.func23, Try.ntmps23
          go_wp2_with fail
          go_ret
          exact ⟨rfl, later (fresh _ _) (fresh _ _)⟩
      · clear h
        go_enter Try.func23, Try.ntmps23
        go_wp2_with fail
        go_ret
        exact ⟨rfl, later (fresh _ _) (fresh _ _)⟩
    · clear h
      go_enter Try.func23, Try.ntmps23
      go_wp2_with fail
      go_ret
      exact ⟨rfl, later (fresh _ _) (fresh _ _)⟩
  · clear h
    go_enter Try.func23, Try.ntmps23
    go_wp2_with fail
    go_ret
    exact ⟨rfl, later (fresh _ _) (fresh _ _)⟩
theorem Held.nothing (S : List (Option Pk)) : Held S [] [] := ⟨rfl, fun j k h => by simp at h⟩
theorem new_rings {u : World} {G : Nat → Prop} {pp P L n : Nat} (h : PoolAt u G pp n (none_ n) (down n)) (hP : 1 ≤ P ∧ P ≤ 16) (hL : 1 ≤ L ∧ L ≤ 3) :
    RAt ((u.alloc (.map #[] 0)).alloc (.cells #[.int .i64 P, .int .i64 P, .int .i64 L, .pointer (some ⟨pp, 0, none⟩), .map (some u.heap.size)] 56)) (fun k => k = u.heap.size + 1 ∨ k = u.heap.size ∨ G k) (u.heap.size + 1) P L n 0 0 (fun _ => []) := by
  have hG : ∀ k, G k → k < u.heap.size := h.foot
  refine ⟨G, pp, u.heap.size, none_ n, down n, fun _ => nilS, fun _ => [], ⟨?_, .inl rfl, .inr (.inl rfl), fun k hk => .inr (.inr hk), by omega, fun e => by have := hG _ e; omega, fun e => by have := hG _ e; omega, by simp, by simp, by simp, by simp, by simp, ?_, ?_, fun q => QRow.nil _, fun q g e => absurd e vblk_nil, fun q q' g e => absurd e vblk_nil, fun q => Nat.le_refl _, fun q => Held.nothing _, fun q q' j j' k e => by simp at e⟩, by rw [down_length]; rfl, hP.1, hP.2, hL.1, hL.2⟩
  · intro k hk
    simp
    rcases hk with e | e | e
    · omega
    · omega
    · have := hG k e; omega
  · exact (h.below (fresh _ _)).below (fresh _ _)
  · exact (QMap.new u).sans (F := fun _ => False) (Sans.alloc _ _) (fun e => e)
set_option maxHeartbeats 1000000 in
theorem r_new_good (P L n : Nat) (hP : 1 ≤ P ∧ P ≤ 16) (hL : 1 ≤ L ∧ L ≤ 3) (hn : 1 ≤ n ∧ n ≤ 200) (w : World) :
    Calls Try.prog 8 #[.int .i64 P, .int .i64 L, .int .i64 n] w fun e w' => ∃ p F, e = .returned (.pointer (some ⟨p, 0, none⟩)) ∧ RAt w' F p P L n 0 0 (fun _ => []) ∧ Below w.heap.size w w' ∧ ∀ k, F k → w.heap.size ≤ k := by
  have h1 : ¬ (P : Int) < 1 := by omega
  have h2 : ¬ (16 : Int) < P := by omega
  have h3 : ¬ (L : Int) < 1 := by omega
  have h4 : ¬ (3 : Int) < L := by omega
  go_enter Try.func8, Try.ntmps8
  go_wp2_with fail
  refine (new_good n hn w).mono ?_
  rintro e u ⟨pp, G, rfl, hPool, hb, hG⟩
  have HP : Hid (PoolAt u G pp n (none_ n) (down n) ∧ Below w.heap.size w u ∧ ∀ k, G k → w.heap.size ≤ k) := ⟨hPool, hb, hG⟩
  have hmm := @run_makeMap Try.prog
  clear hPool hb hG
  go_wp2_with fail
  go_ret
  obtain ⟨q1, q2, q3⟩ := HP.out
  have hz := q2.size
  refine ⟨u.heap.size + 1, fun k => k = u.heap.size + 1 ∨ k = u.heap.size ∨ G k, by simp, new_rings q1 hP hL, later (later q2 (fresh _ _)) (fresh _ _), ?_⟩
  intro k hk
  rcases hk with e | e | e
  · omega
  · omega
  · exact q3 k e
theorem r_new_bad (a b s : Int) (ha : I64 a) (hb : I64 b) (hs : I64 s) (h : ¬ (1 ≤ a ∧ a ≤ 16 ∧ 1 ≤ b ∧ b ≤ 3 ∧ 1 ≤ s ∧ s ≤ 200)) (w : World) :
    Calls Try.prog 8 #[.int .i64 a, .int .i64 b, .int .i64 s] w fun e w' => e = .returned (.pointer none) ∧ Below w.heap.size w w' := by
  by_cases h0 : 1 ≤ s ∧ s ≤ 200
  · obtain ⟨n, rfl⟩ := Int.eq_ofNat_of_zero_le (show 0 ≤ s by omega)
    by_cases h1 : a < 1
    · go_enter Try.func8, Try.ntmps8
      go_wp2_with fail
      refine (new_good n (by omega) w).mono ?_
      rintro e u ⟨pp, G, rfl, hPool, hb, hG⟩
      clear hPool
      go_wp2_with fail
      go_ret
      exact ⟨rfl, hb⟩
    · by_cases h2 : 16 < a
      · go_enter Try.func8, Try.ntmps8
        go_wp2_with fail
        refine (new_good n (by omega) w).mono ?_
        rintro e u ⟨pp, G, rfl, hPool, hb, hG⟩
        clear hPool
        go_wp2_with fail
        go_ret
        exact ⟨rfl, hb⟩
      · by_cases h3 : b < 1
        · go_enter Try.func8, Try.ntmps8
          go_wp2_with fail
          refine (new_good n (by omega) w).mono ?_
          rintro e u ⟨pp, G, rfl, hPool, hb, hG⟩
          clear hPool
          go_wp2_with fail
          go_ret
          exact ⟨rfl, hb⟩
        · have h4 : 3 < b := by omega
          go_enter Try.func8, Try.ntmps8
          go_wp2_with fail
          refine (new_good n (by omega) w).mono ?_
          rintro e u ⟨pp, G, rfl, hPool, hb, hG⟩
          clear hPool
          go_wp2_with fail
          go_ret
          exact ⟨rfl, hb⟩
  · clear h
    have hs' : s < 1 ∨ 200 < s := by omega
    go_enter Try.func8, Try.ntmps8
    go_wp2_with fail
    refine (new_bad s hs hs' w).mono ?_
    rintro e u ⟨rfl, rfl⟩
    go_wp2_with fail
    go_ret
    exact ⟨rfl, Below.refl _ _⟩
end Go.Proofs.Ytpbeldcaiceakaa
