/-
  Package link, as it landed: slices.Delete of one row, and what Take comes to. Conditions: none but that the link is one.
-/
import Derived.Test.YtjelfenkbngfiaaLinkB
import Derived.Deep.RegionLaw
namespace Go.Proofs.Ytjelfenkbngfiaa
open Go.ChangeShapes Go.WideShapes Go.ChangeAt Go.RowKit
set_option linter.unusedVariables false

/-- cells laid one behind the other -/
def laid (xs : List Value) (o : Nat) : List Value → List Value
  | [] => xs
  | v :: vs => laid (xs.set o v) (o + 1) vs
theorem laid_length : ∀ (vs : List Value) (xs : List Value) (o : Nat), (laid xs o vs).length = xs.length
  | [], _, _ => rfl
  | v :: vs, xs, o => by rw [laid, laid_length vs, List.length_set]
theorem laid_at : ∀ (vs : List Value) (xs : List Value) (o j : Nat), o + vs.length ≤ xs.length → (laid xs o vs)[j]? = if o ≤ j ∧ j < o + vs.length then vs[j - o]? else xs[j]?
  | [], xs, o, j, h => by
    rw [laid, if_neg (fun e => by simp only [List.length_nil] at e; omega)]
  | v :: vs, xs, o, j, h => by
    simp only [List.length_cons] at h
    rw [laid, laid_at vs (xs.set o v) (o + 1) j (by rw [List.length_set]; omega)]
    simp only [List.length_cons]
    by_cases h1 : j = o
    · subst h1
      rw [if_neg (by omega), if_pos (by omega), List.getElem?_set_self (by omega)]
      simp
    · by_cases h2 : o + 1 ≤ j ∧ j < o + 1 + vs.length
      · rw [if_pos h2, if_pos (by omega), show j - o = (j - (o + 1)) + 1 by omega, List.getElem?_cons_succ]
      · rw [if_neg h2, if_neg (by omega), List.getElem?_set_ne (fun e => h1 e.symm)]
theorem owns_laid {base n size g cap : Nat} {e : TypeId} : ∀ (vs : List Value) (o : Nat) (w : World) (xs : List Value), w.ownsRow base e size (.slice (some ⟨g, 0, none⟩) n cap) n xs → (w.setCells g o vs).ownsRow base e size (.slice (some ⟨g, 0, none⟩) n cap) n (laid xs o vs)
  | [], _, _, _, h => h
  | v :: vs, o, w, xs, h => owns_laid vs (o + 1) (w.setCell ⟨g, o, none⟩ v) (xs.set o v) (h.stored o v).1
theorem Sans.of_sets {F : Nat → Prop} (g : Nat) (hg : F g) : ∀ (vs : List Value) (o : Nat) (w : World), Sans F w (w.setCells g o vs)
  | [], _, w => Sans.refl F w
  | v :: vs, o, w => (Sans.of_set w ⟨g, o, none⟩ v hg).trans (Sans.of_sets g hg vs (o + 1) (w.setCell ⟨g, o, none⟩ v)) (fun k hk => .inl hk)
theorem owns_cut {w : World} {base g cap n m : Nat} {e : TypeId} {xs : List Value} (h : w.ownsRow base e 1 (.slice (some ⟨g, 0, none⟩) n cap) n xs) (hm : m ≤ n) : w.ownsRow base e 1 (.slice (some ⟨g, 0, none⟩) m cap) m (xs.take m) := by
  have hl := h.1
  refine ⟨by rw [List.length_take, hl]; omega, ?_⟩
  rcases h.2 with ⟨e, _⟩ | ⟨g', cp, cur, e, hb, hg, hnc, hcm, hcs, htake⟩
  · cases e
  · simp only [Value.slice.injEq, Option.some.injEq, Addr.mk.injEq, and_true, true_and] at e
    obtain ⟨rfl, rfl⟩ := e
    refine .inr ⟨g, cap, cur, rfl, hb, hg, by omega, hcm, hcs, ?_⟩
    rw [← htake, List.take_take]
    congr 1
    omega
theorem laid_erased {xs : List Value} {i m : Nat} (h : xs.length = i + 1 + m) (z : Value) : (laid (laid xs i (xs.drop (i + 1))) (i + m) [z]).take (i + m) = xs.eraseIdx i := by
  apply List.ext_getElem?
  intro j
  rw [List.getElem?_take, List.getElem?_eraseIdx]
  by_cases hj : j < i + m
  · rw [if_pos hj, laid_at _ _ _ _ (by rw [laid_length]; simp; omega), if_neg (by simp; omega), laid_at _ _ _ _ (by rw [List.length_drop]; omega), List.length_drop]
    by_cases hi : j < i
    · rw [if_neg (by omega), if_pos hi]
    · rw [if_pos (by omega), if_neg hi, List.getElem?_drop]
      congr 1
      omega
  · rw [if_neg hj]
    split
    · omega
    · rw [List.getElem?_eq_none (by omega)]
theorem owns_cells {w : World} {base g cap n : Nat} {e : TypeId} {xs : List Value} (h : w.ownsRow base e 1 (.slice (some ⟨g, 0, none⟩) n cap) n xs) {j : Nat} (hj : j < n) : w.cell? ⟨g, j, none⟩ = xs[j]? := h.cellAt j (by omega)
set_option maxHeartbeats 1000000 in
theorem del_one (g cap i m : Nat) (rs : List RowV) (w : World) (h : OwnL w (some ⟨g, 0, none⟩) cap rs) (hn : rs.length = i + 1 + m) (hb : i + m ≤ 64) :
    Calls Try.prog 26 #[.slice (some ⟨g, 0, none⟩) (i + 1 + m : Nat) cap, .int .i64 i, .int .i64 ((i : Int) + 1)] w fun e w' => e = .returned (.slice (some ⟨g, 0, none⟩) (i + m : Nat) cap) ∧ OwnL w' (some ⟨g, 0, none⟩) cap (rs.eraseIdx i) ∧ Sans (fun k => k = g) w w' := by
  obtain ⟨i0, hi0, hz0, hz1, hz2⟩ := info_parts infoL
  have hmx := h.maxcap
  have hcn : rs.length ≤ cap := by
    rcases h.shape with ⟨e, _⟩ | ⟨g', _, _, h2⟩
    · cases e
    · exact h2
  rw [hn] at hcn
  have h0 : w.drew.ownsRow 0 29 1 (.slice (some ⟨g, 0, none⟩) (i + 1 + m) cap) (i + 1 + m) (rs.map RowV.val) := by
    have := h
    unfold OwnL at this
    rw [hn] at this
    exact this
  have hlen : (rs.map RowV.val).length = i + 1 + m := by rw [List.length_map, hn]
  obtain ⟨xs, hxs⟩ : ∃ xs, xs = rs.map RowV.val := ⟨_, rfl⟩
  rw [← hxs] at h0 hlen
  obtain ⟨news, hnews⟩ : ∃ news, news = xs.drop (i + 1) := ⟨_, rfl⟩
  have hnl : news.length = m := by rw [hnews, List.length_drop, hlen]; omega
  have one : ∀ u ∈ xs, u.oneCell' = true := by rw [hxs]; exact vals_one rs
  obtain ⟨A, hA, hsrc⟩ : ∃ A : Addr, (if cap = i + 1 then some (⟨g, 0, none⟩ : Addr) else some ⟨g, i + 1, none⟩) = some A ∧ Hid (∀ t u, news[t]? = some u → w.drew.cell? (A.add t) = some u) := by
    by_cases hc : cap = i + 1
    · refine ⟨⟨g, 0, none⟩, by simp [hc], fun t u hu => ?_⟩
      have h0 : news.length = 0 := by rw [hnl]; omega
      rw [List.length_eq_zero_iff.1 h0] at hu
      simp at hu
    · refine ⟨⟨g, i + 1, none⟩, by simp [hc], fun t u hu => ?_⟩
      have ht : t < m := by
        have := (List.getElem?_eq_some_iff.1 hu).1
        rwa [hnl] at this
      rw [add_none, owns_cells h0 (by omega)]
      rw [hnews, List.getElem?_drop] at hu
      exact hu
  have s1 : Hid (news.length = m * 1) := by rw [Nat.mul_one]; exact hnl
  have s2 : Hid (∀ u ∈ news, u.oneCell' = true) := fun u hu => one u (List.mem_of_mem_drop (hnews ▸ hu))
  have s3 : Hid (∀ t, t < news.length → (w.drew.cell? ⟨g, 0 + i * 1 + t, none⟩).isSome = true ∧ w.drew.frozen? ⟨g, 0 + i * 1 + t, none⟩ = false) := by
    intro t ht
    rw [hnl] at ht
    refine ⟨?_, h0.frozenAt _⟩
    rw [owns_cells h0 (by omega), List.getElem?_eq_getElem (by rw [hlen]; omega)]
    rfl
  obtain ⟨W1, hW1⟩ : ∃ W1, W1 = w.drew.setCells g (0 + i * 1) news := ⟨_, rfl⟩
  have h1 : W1.ownsRow 0 29 1 (.slice (some ⟨g, 0, none⟩) (i + 1 + m) cap) (i + 1 + m) (laid xs i news) := by
    rw [hW1, show 0 + i * 1 = i by omega]
    exact owns_laid news i w.drew xs h0
  have hcl : ∀ ty, (Builtin.clear_ #[27] ty #[.slice (some ⟨g, i + m, none⟩) 1 (cap - (i + m))]).run Try.prog W1 = .ok (.tuple #[]) (W1.setCells g (i + m) [.slice none 0 0]) :=
    fun ty => Lib.run_clear_slice W1 _ _ ty _ Try.underlying27 Try.zeroValue29 rfl rfl g (i + m) 1 _ (by omega) (fun t ht => by rw [owns_cells h1 (by omega), List.getElem?_eq_getElem (by rw [laid_length, hlen]; omega)]; rfl) (fun t ht => h1.frozenAt _)
  have HE : Hid (OwnL (W1.setCells g (i + m) [.slice none 0 0]) (some ⟨g, 0, none⟩) cap (rs.eraseIdx i) ∧ Sans (fun k => k = g) w (W1.setCells g (i + m) [.slice none 0 0])) := by
    refine ⟨?_, ?_⟩
    · have h2 := owns_cut (owns_laid [.slice none 0 0] (i + m) W1 _ h1) (m := i + m) (by omega)
      rw [hnews, laid_erased hlen] at h2
      have hle : (rs.eraseIdx i).length = i + m := by rw [List.length_eraseIdx_of_lt (by omega), hn]; omega
      unfold OwnL
      rw [hle, show (rs.eraseIdx i).map RowV.val = (rs.map RowV.val).eraseIdx i by rw [List.eraseIdx_eq_take_drop_succ, List.eraseIdx_eq_take_drop_succ, List.map_append, List.map_take, List.map_drop], ← hxs]
      exact h2
    · refine Sans.trans (F := fun k => k = g) (w1 := W1) ?_ (Sans.of_sets (F := fun k => k = g) g rfl _ _ W1) (fun k hk => .inl hk)
      rw [hW1]
      exact Sans.trans (F := fun k => k = g) (w1 := w.drew) (Sans.of_below (drewN_below w 1)) (Sans.of_sets (F := fun k => k = g) g rfl news _ w.drew) (fun k hk => .inl hk)
  have HW : Hid (W1 = w.drew.setCells g (0 + i * 1) news) := hW1
  have hic : i ≤ cap := by omega
  have hjc : i + 1 ≤ cap := by omega
  have hne : ¬ cap = i + m := by omega
  have hp2 : ((i : Int) + 1).toNat = i + 1 := by omega
  have hp0 : (0 : Int) ≤ (i : Int) + 1 := by omega
  have hp1 : (i : Int) + 1 ≤ (i : Int) + 1 + (m : Int) := by omega
  have hd1 : i + 1 + m - (i + m) = 1 := by omega
  have hq : ((i : Int) == (i : Int) + 1) = false := by simp; omega
  clear hW1 h1 h0 one hnews hnl hxs h hlen
  go_enter Try.func26, Try.ntmps26
  go_wp2_with fail
  go_region_law (refine step_append_room rfl (.tmp 22) (.tmp 25) 27 rfl 29 i0 1 Try.underlying27 hi0 hz1 g 0 i cap (by simp [Act.eval, Act.put]) A m (cap - (i + 1)) news (by simp [Act.eval, Act.put]) s1.out hsrc.out s2.out (by omega) s3.out ?_; rw [← HW.out])
  go_wp2
  go_ret
  exact ⟨rfl, HE.out⟩
set_option maxHeartbeats 400000 in
theorem linkTake_none (p room : Nat) (F : Nat → Prop) (rs : List RowV) (a : Option Addr) (cap : Nat) (z : Int) (w : World) (h : LinkAt w F p room rs a cap) (hz : z < 0 ∨ (rs.length : Int) ≤ z) :
    Calls Try.prog 15 #[.pointer (some ⟨p, 0, none⟩), .int .i64 z] w fun e w' => e = .returned (.tuple #[.slice none 0 0, .bool false]) ∧ w' = w := by
  have HR : Hid (LinkAt w F p room rs a cap ∧ (z < 0 ∨ (rs.length : Int) ≤ z)) := ⟨h, hz⟩
  clear h hz
  go_enter Try.func15, Try.ntmps15
  go_wp2_with fail
  refine (linkAt_none p room F rs a cap z _ HR.out.1 HR.out.2).mono ?_
  rintro e w1 ⟨rfl, rfl⟩
  go_wp2_with fail
  go_ret2
  exact ⟨rfl, rfl⟩
theorem linkTake_end {w u : World} {F : Nat → Prop} {p room g n i cap : Nat} {rs : List RowV} (h : LinkAt w F p room rs (some ⟨g, 0, none⟩) cap) (hi : i < rs.length) (hn : (rs.eraseIdx i).length = n) (ho : OwnL u (some ⟨g, 0, none⟩) cap (rs.eraseIdx i)) (S : Sans (fun k => k = g) w u) (s1 : u.frozen? ⟨p, 1, none⟩ = false) (s0 : u.cell? ⟨p, 1, none⟩ = some (.slice (some ⟨g, 0, none⟩) rs.length cap)) :
    LinkAt (u.setCell ⟨p, 1, none⟩ (.slice (some ⟨g, 0, none⟩) n cap)) F p room (rs.eraseIdx i) (some ⟨g, 0, none⟩) cap ∧ Grows F w F (u.setCell ⟨p, 1, none⟩ (.slice (some ⟨g, 0, none⟩) n cap)) ∧ (rs.getD i zrow).ok (u.setCell ⟨p, 1, none⟩ (.slice (some ⟨g, 0, none⟩) n cap)) := by
  have hp := h.foot p h.self
  have hh := h.head _ rfl
  simp only at hh
  have SW : Sans (fun k => k = g ∨ k = p) w (u.setCell ⟨p, 1, none⟩ (.slice (some ⟨g, 0, none⟩) n cap)) := Sans.trans (F := fun k => k = g ∨ k = p) (w1 := u) (S.mono (fun k hk => .inl hk)) (Sans.of_set u ⟨p, 1, none⟩ _ (F := fun k => k = g ∨ k = p) (.inr rfl)) (fun k hk => .inl hk)
  have row : ∀ r ∈ rs, Own (u.setCell ⟨p, 1, none⟩ (.slice (some ⟨g, 0, none⟩) n cap)) 0 r.a r.len r.cap r.l := by
    intro r hr
    obtain ⟨h1, h2, h3⟩ := h.rows r hr
    exact h1.sans SW (fun ad e hk => hk.elim (fun hk => (h3 ad e).2.2 _ rfl hk) (fun hk => (h3 ad e).2.1 hk))
  refine ⟨⟨fun k hk => Nat.lt_of_lt_of_le (h.foot k hk) SW.size, h.self, ⟨h.room1.1, h.room1.2.1, ?_⟩, by simpa using s1, ?_, ?_, ?_, h.head, ?_, ?_⟩, ⟨SW.mono ?_, fun k hk => .inl hk⟩, ?_⟩
  · have := h.room1.2.2
    rw [List.length_eraseIdx_of_lt hi]; omega
  · rw [World.cell?_setCell_other]
    · exact (S.cell (p := ⟨p, 0, none⟩) hp (fun e => hh.2 e.symm)).trans h.c0
    · simp
  · rw [hn]
    exact World.cell?_setCell_same _ _ _ s0
  · exact ho.sans (F := fun k => k = p) (Sans.of_set u ⟨p, 1, none⟩ _ rfl) (fun ad e => by cases e; exact hh.2)
  · intro r hr
    have hr' := List.mem_of_mem_eraseIdx hr
    exact ⟨row r hr', (h.rows r hr').2⟩
  · exact h.apart.sublist ((List.eraseIdx_sublist rs i).map _)
  · rintro k (hk | hk)
    · rw [hk]; exact hh.1
    · rw [hk]; exact h.self
  · have hr' := getD_mem_rows (rs := rs) (j := i) hi
    exact ⟨(row _ hr').octs, (row _ hr').nilled⟩
set_option maxHeartbeats 1000000 in
theorem linkTake_some (p room : Nat) (F : Nat → Prop) (rs : List RowV) (a : Option Addr) (cap i : Nat) (w : World) (h : LinkAt w F p room rs a cap) (hi : i < rs.length) :
    Calls Try.prog 15 #[.pointer (some ⟨p, 0, none⟩), .int .i64 i] w fun e w' => e = .returned (.tuple #[.slice (rs.getD i zrow).a (rs.getD i zrow).len (rs.getD i zrow).cap, .bool true]) ∧ LinkAt w' F p room (rs.eraseIdx i) a cap ∧ Grows F w F w' ∧ (rs.getD i zrow).ok w' := by
  obtain ⟨g, rfl, hg, hcap⟩ := h.some (by omega)
  have HR : Hid (LinkAt w F p room rs (some ⟨g, 0, none⟩) cap ∧ i < rs.length) := ⟨h, hi⟩
  have hc1 := h.c1
  have hf1 := h.f1
  have hp := h.foot p h.self
  have hgp : g ≠ p := (h.head _ rfl).2
  obtain ⟨m, hm⟩ : ∃ m, rs.length = i + 1 + m := ⟨rs.length - (i + 1), by omega⟩
  have HN : Hid (rs.length = i + 1 + m) := hm
  have hr := h.room1
  rw [hm] at hc1 hr
  clear h hi hm hcap
  obtain ⟨r, hr0⟩ : ∃ r, rs.getD i zrow = r := ⟨_, rfl⟩
  have HRr : Hid (rs.getD i zrow = r) := hr0
  rw [hr0]
  obtain ⟨ra, rl, rc, rt⟩ := r
  clear hr0
  go_enter Try.func15, Try.ntmps15
  go_wp2_with fail
  refine (linkAt_some p room F rs _ cap i _ HR.out.1 HR.out.2).mono ?_
  rintro e w1 ⟨rfl, rfl⟩
  rw [HRr.out]
  dsimp only
  go_wp2_with fail
  refine (del_one g cap i m rs _ HR.out.1.own HN.out (by omega)).mono ?_
  rintro e u ⟨rfl, ho, S⟩
  have s0 : u.cell? ⟨p, 1, none⟩ = some (.slice (some ⟨g, 0, none⟩) (i + 1 + m) cap) := (S.cell (p := ⟨p, 1, none⟩) hp (fun e => hgp e.symm)).trans hc1
  have s1 : u.frozen? ⟨p, 1, none⟩ = false := (S.frozen (p := ⟨p, 1, none⟩) hp (fun e => hgp e.symm)).trans hf1
  have HS : Hid (OwnL u (some ⟨g, 0, none⟩) cap (rs.eraseIdx i) ∧ Sans (fun k => k = g) w1 u) := ⟨ho, S⟩
  clear ho S
  go_wp2_with fail
  go_ret2
  have hend := linkTake_end (n := i + m) HR.out.1 HR.out.2 (by rw [List.length_eraseIdx_of_lt HR.out.2, HN.out]; omega) HS.out.1 HS.out.2 s1 (by rw [HN.out]; exact s0)
  rw [HRr.out] at hend
  exact ⟨rfl, hend⟩
end Go.Proofs.Ytjelfenkbngfiaa
