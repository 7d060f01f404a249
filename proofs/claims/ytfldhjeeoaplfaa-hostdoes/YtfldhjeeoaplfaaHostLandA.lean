/-
  Package host, as it landed: what a host is in memory; has, New, Waits, Got. Conditions: none but that the host is such.
-/
import Derived.Test.YtfldhjeeoaplfaaHostSpec
import Derived.Test.YtfldhjeeoaplfaaSince2
namespace Go.Proofs.Ytfldhjeeoaplfaa
open Go.ChangeShapes Go.WideShapes Go.ChangeAt Go.RowKit
set_option linter.unusedVariables false

/-- block p holds a host: n lanes, q packets in each; L waits (lane k in the row A k), G came -/
structure LIn (w : World) (F : Nat → Prop) (p n q : Nat) (L G : List Pk) (A : Nat → Option Addr) (C : Nat → Nat) (b : Option Addr) (cb : Nat) : Prop where
  foot : ∀ k, F k → k < w.heap.size
  self : F p
  c0 : w.cell? ⟨p, 0, none⟩ = some (.int .i64 n)
  c1 : w.cell? ⟨p, 1, none⟩ = some (.int .i64 q)
  cq : ∀ k : Nat, k < 3 → w.cell? ⟨p, 2 + k, none⟩ = some (.slice (A k) (Hst.lane L (k : Nat)).length (C k))
  c5 : w.cell? ⟨p, 5, none⟩ = some (.slice b G.length cb)
  fq : ∀ k : Nat, k < 3 → w.frozen? ⟨p, 2 + k, none⟩ = false
  f5 : w.frozen? ⟨p, 5, none⟩ = false
  rowq : ∀ k : Nat, k < 3 → w.ownsRow 0 27 4 (.slice (A k) (Hst.lane L (k : Nat)).length (C k)) (Hst.lane L (k : Nat)).length (kcells (Hst.lane L (k : Nat)))
  rowG : w.ownsRow 0 27 4 (.slice b G.length cb) G.length (kcells G)
  headq : ∀ k : Nat, k < 3 → ∀ ad, A k = some ad → F ad.block ∧ ad.block ≠ p
  headG : ∀ ad, b = some ad → F ad.block ∧ ad.block ≠ p
  apq : ∀ j k : Nat, j < 3 → k < 3 → j ≠ k → ∀ x y, A j = some x → A k = some y → x.block ≠ y.block
  apG : ∀ k : Nat, k < 3 → ∀ x y, A k = some x → b = some y → x.block ≠ y.block
  fit : Hst.Fits n q L
def LAt (w : World) (F : Nat → Prop) (p n q : Nat) (L G : List Pk) : Prop := ∃ A C b cb, LIn w F p n q L G A C b cb
section
variable {w w' : World} {F E : Nat → Prop} {p n q : Nat} {L G : List Pk} {A : Nat → Option Addr} {C : Nat → Nat} {b : Option Addr} {cb : Nat}
theorem LIn.sans (h : LIn w F p n q L G A C b cb) (k : Sans E w w') (hd : ∀ k, F k → ¬ E k) : LIn w' F p n q L G A C b cb := by
  have hr := h.foot p h.self
  have hn := hd p h.self
  have ec : ∀ j, w'.cell? ⟨p, j, none⟩ = w.cell? ⟨p, j, none⟩ := fun j => k.cell (p := ⟨p, j, none⟩) hr hn
  have ef : ∀ j, w'.frozen? ⟨p, j, none⟩ = w.frozen? ⟨p, j, none⟩ := fun j => k.frozen (p := ⟨p, j, none⟩) hr hn
  exact ⟨fun j hj => Nat.lt_of_lt_of_le (h.foot j hj) k.size, h.self, (ec _).trans h.c0, (ec _).trans h.c1, fun j hj => (ec _).trans (h.cq j hj), (ec _).trans h.c5, fun j hj => (ef _).trans (h.fq j hj), (ef _).trans h.f5,
    fun j hj => owns_lift (h.rowq j hj) k (fun ad e => hd _ (h.headq j hj ad e).1), owns_lift h.rowG k (fun ad e => hd _ (h.headG ad e).1), h.headq, h.headG, h.apq, h.apG, h.fit⟩
theorem LIn.below (h : LIn w F p n q L G A C b cb) (k : Below w.heap.size w w') : LIn w' F p n q L G A C b cb :=
  h.sans (E := fun _ => False) (Sans.of_below k) (fun _ _ e => e)
theorem LAt.sans (h : LAt w F p n q L G) (k : Sans E w w') (hd : ∀ k, F k → ¬ E k) : LAt w' F p n q L G := by
  obtain ⟨A, C, b, cb, h⟩ := h
  exact ⟨A, C, b, cb, h.sans k hd⟩
theorem LAt.foot (h : LAt w F p n q L G) : ∀ k, F k → k < w.heap.size := by
  obtain ⟨A, C, b, cb, h⟩ := h
  exact h.foot
theorem LAt.fit (h : LAt w F p n q L G) : Hst.Fits n q L := by
  obtain ⟨A, C, b, cb, h⟩ := h
  exact h.fit
/-- lane k's row has turned, and its place in the host -/
theorem LIn.turn {w2 : World} (h : LIn w F p n q L G A C b cb) {k : Nat} (hk : k < 3) {g len' c2 : Nat} {L' : List Pk} (S1 : Sans (blk (A k)) w w2) (hown : w2.ownsRow 0 27 4 (.slice (some ⟨g, 0, none⟩) len' c2) len' (kcells (Hst.lane L' (k : Nat))))
    (hg : blk (A k) g ∨ w.heap.size ≤ g) (hlen : (Hst.lane L' (k : Nat)).length = len') (hoth : ∀ j : Nat, j ≠ k → Hst.lane L' (j : Nat) = Hst.lane L (j : Nat)) (hf : Hst.Fits n q L') :
    ∃ F', LAt (w2.setCell ⟨p, 2 + k, none⟩ (.slice (some ⟨g, 0, none⟩) len' c2)) F' p n q L' G ∧ Grows F w F' (w2.setCell ⟨p, 2 + k, none⟩ (.slice (some ⟨g, 0, none⟩) len' c2)) := by
  have hpl : p < w.heap.size := h.foot p h.self
  have hpb : ¬ blk (A k) p := fun ⟨ad, e, e2⟩ => (h.headq k hk ad e).2 e2
  have hbF : ∀ j, blk (A k) j → F j := fun j ⟨ad, e, e2⟩ => e2 ▸ (h.headq k hk ad e).1
  have hgp : g ≠ p := hg.elim (fun e e2 => hpb (e2 ▸ e)) (fun e => by omega)
  have S2 : Sans (fun j => j = p) w2 (w2.setCell ⟨p, 2 + k, none⟩ (.slice (some ⟨g, 0, none⟩) len' c2)) := Sans.of_set w2 ⟨p, 2 + k, none⟩ _ rfl
  have S12 : Sans F w (w2.setCell ⟨p, 2 + k, none⟩ (.slice (some ⟨g, 0, none⟩) len' c2)) := (S1.mono hbF).then (S2.mono (fun j e => by rw [e]; exact h.self))
  have hgl : g < w2.heap.size := (hown.lt g rfl).2
  have old : ∀ j, w2.cell? ⟨p, j, none⟩ = w.cell? ⟨p, j, none⟩ := fun j => S1.cell (p := ⟨p, j, none⟩) hpl hpb
  have oldf : ∀ j, w2.frozen? ⟨p, j, none⟩ = w.frozen? ⟨p, j, none⟩ := fun j => S1.frozen (p := ⟨p, j, none⟩) hpl hpb
  have hrow : ∀ j : Nat, j < 3 → j ≠ k → (w2.setCell ⟨p, 2 + k, none⟩ (.slice (some ⟨g, 0, none⟩) len' c2)).ownsRow 0 27 4 (.slice (A j) (Hst.lane L (j : Nat)).length (C j)) (Hst.lane L (j : Nat)).length (kcells (Hst.lane L (j : Nat))) :=
    fun j hj hne => owns_lift (owns_lift (h.rowq j hj) S1 (fun ad e ⟨ad2, e2, e3⟩ => h.apq j k hj hk hne ad ad2 e e2 e3.symm)) S2 (fun ad e => (h.headq j hj ad e).2)
  have rg : (w2.setCell ⟨p, 2 + k, none⟩ (.slice (some ⟨g, 0, none⟩) len' c2)).ownsRow 0 27 4 (.slice b G.length cb) G.length (kcells G) :=
    owns_lift (owns_lift h.rowG S1 (fun ad e ⟨ad2, e2, e3⟩ => h.apG k hk ad2 ad e2 e e3)) S2 (fun ad e => (h.headG ad e).2)
  have hal : ∀ j, j < 3 → ∀ y, A j = some y → y.block < w.heap.size := fun j hj y e => h.foot _ (h.headq j hj y e).1
  have hbl : ∀ y, b = some y → y.block < w.heap.size := fun y e => h.foot _ (h.headG y e).1
  have far : ∀ j, j < 3 → j ≠ k → ∀ y, A j = some y → y.block ≠ g := fun j hj hne y e => hg.elim (fun ⟨ad2, e2, e3⟩ e4 => h.apq j k hj hk hne y ad2 e e2 (e4.trans e3.symm)) (fun e2 => by have := hal j hj y e; omega)
  have farG : ∀ y, b = some y → g ≠ y.block := fun y e => hg.elim (fun ⟨ad2, e2, e3⟩ e4 => h.apG k hk ad2 y e2 e (e3.trans e4)) (fun e2 => by have := hbl y e; omega)
  refine ⟨fun j => F j ∨ j = g, ⟨fun j => if j = k then some ⟨g, 0, none⟩ else A j, fun j => if j = k then c2 else C j, b, cb, ⟨?_, .inl h.self, cell_set ((old 0).trans h.c0) (by omega), cell_set ((old 1).trans h.c1) (by omega), ?_, cell_set ((old 5).trans h.c5) (by omega), ?_, ?_, ?_, rg, ?_, fun ad e => ⟨.inl (h.headG ad e).1, (h.headG ad e).2⟩, ?_, ?_, hf⟩⟩, S12, ?_⟩
  · rintro j (e | e)
    · exact Nat.lt_of_lt_of_le (h.foot j e) S12.size
    · rw [e]; exact Nat.lt_of_lt_of_le hgl S2.size
  · intro j hj
    by_cases e : j = k
    · subst e
      simp only [if_true]
      rw [hlen]
      exact World.cell?_setCell_same _ _ _ ((old (2 + j)).trans (h.cq j hj))
    · simp only [if_neg e]
      rw [hoth j e]
      exact cell_set ((old (2 + j)).trans (h.cq j hj)) (by omega)
  · intro j hj
    rw [World.frozen?_setCell, oldf]
    exact h.fq j hj
  · rw [World.frozen?_setCell, oldf]
    exact h.f5
  · intro j hj
    by_cases e : j = k
    · subst e
      simp only [if_true]
      rw [hlen]
      exact owns_at hown S2 hgp
    · simp only [if_neg e]
      rw [hoth j e]
      exact hrow j hj e
  · intro j hj ad e
    by_cases ek : j = k
    · simp only [if_pos ek, Option.some.injEq] at e
      subst e
      exact ⟨.inr rfl, hgp⟩
    · simp only [if_neg ek] at e
      exact ⟨.inl (h.headq j hj ad e).1, (h.headq j hj ad e).2⟩
  · intro i j hi hj hij x y ex ey
    by_cases e1 : i = k
    · have e2 : j ≠ k := fun e2 => hij (e1.trans e2.symm)
      simp only [if_pos e1, Option.some.injEq] at ex
      simp only [if_neg e2] at ey
      subst ex
      exact (far j hj e2 y ey).symm
    · simp only [if_neg e1] at ex
      by_cases e2 : j = k
      · simp only [if_pos e2, Option.some.injEq] at ey
        subst ey
        exact far i hi e1 x ex
      · simp only [if_neg e2] at ey
        exact h.apq i j hi hj hij x y ex ey
  · intro j hj x y ex ey
    by_cases e1 : j = k
    · simp only [if_pos e1, Option.some.injEq] at ex
      subst ex
      exact farG y ey
    · simp only [if_neg e1] at ex
      exact h.apG j hj x y ex ey
  · rintro j (e | e)
    · exact .inl e
    · exact hg.elim (fun e2 => .inl (by rw [e]; exact hbF g e2)) (fun e2 => .inr (by omega))
/-- the row of what came has turned, and its place in the host -/
theorem LIn.came {w2 : World} (h : LIn w F p n q L G A C b cb) {g len' c2 : Nat} {G' : List Pk} (S1 : Sans (blk b) w w2) (hown : w2.ownsRow 0 27 4 (.slice (some ⟨g, 0, none⟩) len' c2) len' (kcells G'))
    (hg : blk b g ∨ w.heap.size ≤ g) (hlen : G'.length = len') :
    ∃ F', LAt (w2.setCell ⟨p, 5, none⟩ (.slice (some ⟨g, 0, none⟩) len' c2)) F' p n q L G' ∧ Grows F w F' (w2.setCell ⟨p, 5, none⟩ (.slice (some ⟨g, 0, none⟩) len' c2)) := by
  have hpl : p < w.heap.size := h.foot p h.self
  have hpb : ¬ blk b p := fun ⟨ad, e, e2⟩ => (h.headG ad e).2 e2
  have hbF : ∀ j, blk b j → F j := fun j ⟨ad, e, e2⟩ => e2 ▸ (h.headG ad e).1
  have hgp : g ≠ p := hg.elim (fun e e2 => hpb (e2 ▸ e)) (fun e => by omega)
  have S2 : Sans (fun j => j = p) w2 (w2.setCell ⟨p, 5, none⟩ (.slice (some ⟨g, 0, none⟩) len' c2)) := Sans.of_set w2 ⟨p, 5, none⟩ _ rfl
  have S12 : Sans F w (w2.setCell ⟨p, 5, none⟩ (.slice (some ⟨g, 0, none⟩) len' c2)) := (S1.mono hbF).then (S2.mono (fun j e => by rw [e]; exact h.self))
  have hgl : g < w2.heap.size := (hown.lt g rfl).2
  have old : ∀ j, w2.cell? ⟨p, j, none⟩ = w.cell? ⟨p, j, none⟩ := fun j => S1.cell (p := ⟨p, j, none⟩) hpl hpb
  have oldf : ∀ j, w2.frozen? ⟨p, j, none⟩ = w.frozen? ⟨p, j, none⟩ := fun j => S1.frozen (p := ⟨p, j, none⟩) hpl hpb
  have hrow : ∀ j : Nat, j < 3 → (w2.setCell ⟨p, 5, none⟩ (.slice (some ⟨g, 0, none⟩) len' c2)).ownsRow 0 27 4 (.slice (A j) (Hst.lane L (j : Nat)).length (C j)) (Hst.lane L (j : Nat)).length (kcells (Hst.lane L (j : Nat))) :=
    fun j hj => owns_lift (owns_lift (h.rowq j hj) S1 (fun ad e ⟨ad2, e2, e3⟩ => h.apG j hj ad ad2 e e2 e3.symm)) S2 (fun ad e => (h.headq j hj ad e).2)
  have hal : ∀ j, j < 3 → ∀ y, A j = some y → y.block < w.heap.size := fun j hj y e => h.foot _ (h.headq j hj y e).1
  have far : ∀ j, j < 3 → ∀ y, A j = some y → y.block ≠ g := fun j hj y e => hg.elim (fun ⟨ad2, e2, e3⟩ e4 => h.apG j hj y ad2 e e2 (e4.trans e3.symm)) (fun e2 => by have := hal j hj y e; omega)
  refine ⟨fun j => F j ∨ j = g, ⟨A, C, some ⟨g, 0, none⟩, c2, ⟨?_, .inl h.self, cell_set ((old 0).trans h.c0) (by omega), cell_set ((old 1).trans h.c1) (by omega), fun j hj => cell_set ((old (2 + j)).trans (h.cq j hj)) (by omega), ?_, ?_, ?_, hrow, ?_, fun j hj ad e => ⟨.inl (h.headq j hj ad e).1, (h.headq j hj ad e).2⟩, ?_, h.apq, ?_, h.fit⟩⟩, S12, ?_⟩
  · rintro j (e | e)
    · exact Nat.lt_of_lt_of_le (h.foot j e) S12.size
    · rw [e]; exact Nat.lt_of_lt_of_le hgl S2.size
  · rw [hlen]
    exact World.cell?_setCell_same _ _ _ ((old 5).trans h.c5)
  · intro j hj
    rw [World.frozen?_setCell, oldf]
    exact h.fq j hj
  · rw [World.frozen?_setCell, oldf]
    exact h.f5
  · rw [hlen]
    exact owns_at hown S2 hgp
  · intro ad e
    cases e
    exact ⟨.inr rfl, hgp⟩
  · intro j hj x y ex ey
    cases ey
    exact far j hj x ex
  · rintro j (e | e)
    · exact .inl e
    · exact hg.elim (fun e2 => .inl (by rw [e]; exact hbF g e2)) (fun e2 => .inr (by omega))
end
theorem hhas_any {w : World} {p n : Nat} (h0 : w.cell? ⟨p, 0, none⟩ = some (.int .i64 n)) (z : Int) {c : Bool} (hc : (decide (0 ≤ z) && decide (z < n)) = c) :
    Calls Try.prog 23 #[.pointer (some ⟨p, 0, none⟩), .int .i64 z] w fun e w' => e = .returned (.bool c) ∧ w' = w := by
  have HC : Hid ((decide (0 ≤ z) && decide (z < n)) = c) := hc
  clear hc
  by_cases h1 : 0 ≤ z
  · by_cases h2 : z < n
    · have e : c = true := by rw [← HC.out, decide_eq_true h1, decide_eq_true h2]; rfl
      subst e
      clear HC
      go_enter Try.func23, Try.ntmps23
      go_wp2_with fail
      go_ret
      exact ⟨rfl, rfl⟩
    · have e : c = false := by rw [← HC.out, decide_eq_true h1, decide_eq_false h2]; rfl
      subst e
      clear HC
      go_enter Try.func23, Try.ntmps23
      go_wp2_with fail
      go_ret
      exact ⟨rfl, rfl⟩
  · have e : c = false := by rw [← HC.out, decide_eq_false h1]; rfl
    subst e
    clear HC
    go_enter Try.func23, Try.ntmps23
    go_wp2_with fail
    go_ret
    exact ⟨rfl, rfl⟩
set_option maxHeartbeats 1000000 in
theorem hNew_yes (n q : Nat) (h1 : 1 ≤ n ∧ n ≤ 3) (h2 : 1 ≤ q ∧ q ≤ 8) (w : World) :
    Calls Try.prog 8 #[.int .i64 n, .int .i64 q] w fun e w' => ∃ r F, e = .returned (.pointer (some ⟨r, 0, none⟩)) ∧ LAt w' F r n q [] [] ∧ Below w.heap.size w w' ∧ ∀ k, F k → w.heap.size ≤ k := by
  have a1 : ¬ (n : Int) < 1 := by omega
  have a2 : ¬ (3 : Int) < n := by omega
  have a3 : ¬ (q : Int) < 1 := by omega
  have a4 : ¬ (8 : Int) < q := by omega
  go_enter Try.func8, Try.ntmps8
  go_wp2_with fail
  go_ret
  have X : LAt (w.alloc (.cells #[.int .i64 n, .int .i64 q, .slice none 0 0, .slice none 0 0, .slice none 0 0, .slice none 0 0] 55)) (fun k => k = w.heap.size) w.heap.size n q [] [] := by
    refine ⟨fun _ => none, fun _ => 0, none, 0, ⟨fun k e => by rw [e]; simp, rfl, by simp, by simp, ?_, by simp, ?_, by simp, fun k hk => World.ownsRow_nil _ _ _ _, World.ownsRow_nil _ _ _ _, fun k hk ad e => (by cases e), fun ad e => (by cases e), fun j k hj hk hne x y e => (by cases e), fun k hk x y e => (by cases e), Hst.Fits.nil h1 h2⟩⟩
    · intro k hk
      match k with
      | 0 => simp [Hst.lane]
      | 1 => simp [Hst.lane]
      | 2 => simp [Hst.lane]
      | k + 3 => omega
    · intro k hk
      simp
  first | exact ⟨w.heap.size, fun k => k = w.heap.size, rfl, X, fresh _ _, fun k e => Nat.le_of_eq e.symm⟩ | exact ⟨w.heap.size, rfl, fun k => k = w.heap.size, X, fresh _ _, fun k e => Nat.le_of_eq e.symm⟩
set_option maxHeartbeats 1000000 in
theorem hNew_no (a b : Int) (h : ¬ ((1 ≤ a ∧ a ≤ 3) ∧ 1 ≤ b ∧ b ≤ 8)) (w : World) :
    Calls Try.prog 8 #[.int .i64 a, .int .i64 b] w fun e w' => e = .returned (.pointer none) ∧ w' = w := by
  have HH : Hid (¬ ((1 ≤ a ∧ a ≤ 3) ∧ 1 ≤ b ∧ b ≤ 8)) := h
  clear h
  by_cases h1 : a < 1
  · go_enter Try.func8, Try.ntmps8
    go_wp2_with fail
    go_ret
    exact ⟨rfl, rfl⟩
  · by_cases h2 : 3 < a
    · go_enter Try.func8, Try.ntmps8
      go_wp2_with fail
      go_ret
      exact ⟨rfl, rfl⟩
    · by_cases h3 : b < 1
      · go_enter Try.func8, Try.ntmps8
        go_wp2_with fail
        go_ret
        exact ⟨rfl, rfl⟩
      · have h4 : 8 < b := by have := HH.out; omega
        go_enter Try.func8, Try.ntmps8
        go_wp2_with fail
        go_ret
        exact ⟨rfl, rfl⟩
section
variable {w : World} {F : Nat → Prop} {p n q : Nat} {L G : List Pk}
set_option maxHeartbeats 1000000 in
theorem hWaits_any (h : LAt w F p n q L G) (z : Int) {c : Nat} (hc : (Hst.lane L z).length = c) :
    Calls Try.prog 11 #[.pointer (some ⟨p, 0, none⟩), .int .i64 z] w fun e w' => e = .returned (.int .i64 c) ∧ w' = w := by
  obtain ⟨A, C, b, cb, h⟩ := h
  have h0 := h.c0
  by_cases hz : 0 ≤ z ∧ z < n
  · obtain ⟨k, rfl⟩ : ∃ k : Nat, z = k := ⟨z.toNat, by omega⟩
    have hk : k < 3 := by have := h.fit.n3; omega
    have cq := h.cq k hk
    rw [hc] at cq
    have hb : (decide (0 ≤ (k : Int)) && decide ((k : Int) < n)) = true := by rw [decide_eq_true hz.1, decide_eq_true hz.2]; rfl
    have HH : Hid (w.cell? ⟨p, 0, none⟩ = some (.int .i64 n)) := h0
    have hk3 : (k : Int) < 3 := by omega
    clear h hc hz h0
    go_enter Try.func11, Try.ntmps11
    go_wp2_with (go_at_call 23; refine (hhas_any HH.out k hb).mono ?_; rintro e w1 ⟨rfl, rfl⟩)
    go_ret
    exact ⟨rfl, rfl⟩
  · have hn := h.fit.out (k := z) (by omega)
    rw [hn] at hc
    subst hc
    have hb : (decide (0 ≤ z) && decide (z < n)) = false := by
      rw [Bool.and_eq_false_iff]
      by_cases e : 0 ≤ z
      · exact .inr (decide_eq_false (fun e2 => hz ⟨e, e2⟩))
      · exact .inl (decide_eq_false e)
    have HH : Hid (w.cell? ⟨p, 0, none⟩ = some (.int .i64 n)) := h0
    clear h hz h0 hn
    go_enter Try.func11, Try.ntmps11
    go_wp2_with (go_at_call 23; refine (hhas_any HH.out z hb).mono ?_; rintro e w1 ⟨rfl, rfl⟩)
    go_ret
    exact ⟨rfl, rfl⟩
end
set_option maxHeartbeats 1000000 in
set_option maxRecDepth 100000 in
theorem pclone_some {w : World} {ad : Addr} {m c : Nat} {G : List Pk} (h : w.ownsRow 0 27 4 (.slice (some ad) m c) m (kcells G)) (hm : m ≤ 100000) :
    Calls Try.prog 24 #[.slice (some ad) m c] w fun e w' => ∃ v, e = .returned v ∧ w'.ownsRow w.heap.size 27 4 v m (kcells G) ∧ Below w.heap.size w w' := by
  have q29 : ∀ (w : World) (a : Option Addr) (n c n' c' : Nat), (binOp .eql 31 (.slice a n c) (.slice none n' c')).run Try.prog w = .ok (.bool a.isNone) w := fun w a n c n' c' => Lib.run_eql_slice_nil w _ _ a n c n' c' Try.underlying31
  obtain ⟨i0, hi0, hz0, hz1, hz2⟩ := info_parts infoPk
  have HR : Hid (w.ownsRow 0 27 4 (.slice (some ad) m c) m (kcells G)) := h
  have HL : Hid ((kcells G).length = m * 4) := h.1
  have HO : Hid ((w.alloc (.cells #[] 27)).ownsRow w.heap.size 27 4 (.slice (some ⟨w.heap.size, 0, none⟩) 0 0) 0 []) := World.ownsRow_made (base := w.heap.size) (e := 27) (size := 4) w #[] 0 (Nat.le_refl _) (by unfold maxLen; omega) (by simp)
  have HN : Hid (∀ (j : Nat) (u : Value), (kcells G)[j]? = some u → (w.alloc (.cells #[] 27)).cell? (ad.add j) = some u) := by
    intro j u hu
    have hr := owns_below h (fresh w (.cells #[] 27))
    obtain ⟨g, rfl⟩ : ∃ g, ad = ⟨g, 0, none⟩ := by
      rcases h.2 with ⟨e, _⟩ | ⟨g, cp, cur, e, _⟩
      · cases e
      · simp only [Value.slice.injEq, Option.some.injEq] at e
        exact ⟨g, e.1⟩
    have hj : j < m * 4 := by have := (List.getElem?_eq_some_iff.1 hu).1; have := h.1; omega
    rw [Addr.add_lit]
    rw [show (0 : Nat) + j = j by omega]
    rw [hr.cellAt j hj]
    exact hu
  have HOne : Hid (∀ u ∈ kcells G, u.oneCell' = true) := by
    intro u hu
    unfold kcells at hu
    obtain ⟨y, _, hy⟩ := List.mem_flatMap.1 hu
    simp only [List.mem_cons, List.not_mem_nil, or_false] at hy
    rcases hy with rfl | rfl | rfl | rfl <;> rfl
  clear h
  go_enter Try.func24, Try.ntmps24
  go_wp2_with (at_builtin; refine wpList_append_own _ rfl (.tmp 5) (.tmp 6) 31 rfl w.heap.size 27 i0 _ 4 32 Try.underlying31 hi0 hz0 hz1 hz2 rfl (by decide) (.slice (some ⟨w.heap.size, 0, none⟩) 0 0) 0 [] rfl HO.out ad m c (kcells G) rfl HL.out HN.out HOne.out (by unfold maxLen; omega) (by omega) (by simp) ?_; intro v' w2 hown hg hnil)
  go_ret
  refine ⟨_, rfl, by simpa using hown, (fresh _ _).grown hg (by simp) (fun j e => ?_)⟩
  simp only [Value.ownBlock, Option.some.injEq] at e
  omega
set_option maxRecDepth 100000 in
theorem pclone_nil (w : World) (n c : Nat) :
    Calls Try.prog 24 #[.slice none n c] w fun e w' => e = .returned (.slice none 0 0) ∧ w' = w := by
  have q29 : ∀ (w : World) (a : Option Addr) (n c n' c' : Nat), (binOp .eql 31 (.slice a n c) (.slice none n' c')).run Try.prog w = .ok (.bool a.isNone) w := fun w a n c n' c' => Lib.run_eql_slice_nil w _ _ a n c n' c' Try.underlying31
  go_enter Try.func24, Try.ntmps24
  go_wp2_with fail
  go_ret
  exact ⟨rfl, rfl⟩
theorem pclone_any {w : World} {a : Option Addr} {c : Nat} {G : List Pk} (h : w.ownsRow 0 27 4 (.slice a G.length c) G.length (kcells G)) (hm : G.length ≤ 100000) :
    Calls Try.prog 24 #[.slice a G.length c] w fun e w' => ∃ v, e = .returned v ∧ PRow w' w.heap.size v G ∧ Below w.heap.size w w' := by
  cases a with
  | some ad => exact pclone_some h hm
  | none =>
    have h0 : G = [] := by
      rcases h.2 with ⟨_, e⟩ | ⟨g, cp, cur, e, _⟩
      · exact List.length_eq_zero_iff.1 e
      · cases e
    subst h0
    refine (pclone_nil w _ c).mono ?_
    rintro e w' ⟨rfl, rfl⟩
    exact ⟨_, rfl, World.ownsRow_nil _ _ _ _, Below.refl _ _⟩
set_option maxHeartbeats 1000000 in
theorem hGot_any {w : World} {F : Nat → Prop} {p n q : Nat} {L G : List Pk} (h : LAt w F p n q L G) (hG : G.length ≤ 100000) :
    Calls Try.prog 12 #[.pointer (some ⟨p, 0, none⟩)] w fun e w' => ∃ v, e = .returned v ∧ PRow w' w.heap.size v G ∧ Below w.heap.size w w' := by
  obtain ⟨A, C, b, cb, h⟩ := h
  have c5 := h.c5
  have HR : Hid (w.ownsRow 0 27 4 (.slice b G.length cb) G.length (kcells G)) := h.rowG
  have HG : Hid (G.length ≤ 100000) := hG
  clear h hG
  go_enter Try.func12, Try.ntmps12
  go_wp2_with (go_at_call 24; refine (pclone_any HR.out HG.out).mono ?_; rintro e w1 ⟨v, rfl, hr, hb⟩)
  go_ret
  exact ⟨_, rfl, hr, hb⟩
end Go.Proofs.Ytfldhjeeoaplfaa
