/-
  Rows of rows of numbers, all the call's own, each in a block of its own: they may be written. Conditions: none.
-/
import Derived.Test.YtphaaolnmbadcaaRefRouteA
namespace Go.Proofs.Ytphaaolnmbadcaa
open Go.ChangeShapes Go.WideShapes Go.ChangeAt Go.RowKit
set_option linter.unusedVariables false

theorem owns_s1 {F : Nat → Prop} {w w' : World} {base n size : Nat} {e : TypeId} {v : Value} {xs : List Value} (h : w.ownsRow base e size v n xs) (s : Sans F w w') (hn : ∀ j, v.ownBlock = some j → ¬ F j) : w'.ownsRow base e size v n xs := by
  refine ⟨h.1, ?_⟩
  rcases h.2 with h0 | ⟨g, cap, cur, rfl, hb, hg, r⟩
  · exact .inl h0
  · exact .inr ⟨g, cap, cur, rfl, hb, (s.block g (Array.getElem?_eq_some_iff.1 hg).1 (hn g rfl)).trans hg, r⟩
theorem zcells_set1 (S : List Int) (k : Nat) (z : Int) : (zcells S).set k (.int .i64 z) = zcells (S.set k z) := (List.map_set ..).symm
/-- a row of numbers in block g -/
def RowG (w : World) (base g : Nat) (x : Value) (l : List Int) : Prop := ∃ cap, x = .slice (some ⟨g, 0, none⟩) l.length cap ∧ w.ownsRow base 3 1 (.slice (some ⟨g, 0, none⟩) l.length cap) l.length (zcells l)
theorem RowG.lt {w : World} {base g : Nat} {x : Value} {l : List Int} (h : RowG w base g x l) : base ≤ g ∧ g < w.heap.size := by
  obtain ⟨cap, _, ho⟩ := h
  exact ho.lt g rfl
theorem RowG.keep {F : Nat → Prop} {w w' : World} {base g : Nat} {x : Value} {l : List Int} (h : RowG w base g x l) (s : Sans F w w') (hF : ¬ F g) : RowG w' base g x l := by
  obtain ⟨cap, e, ho⟩ := h
  exact ⟨cap, e, owns_s1 ho s (fun j ej => by simp only [Value.ownBlock, Option.some.injEq] at ej; subst ej; exact hF)⟩
theorem RowG.mono {w : World} {base base' g : Nat} {x : Value} {l : List Int} (h : RowG w base g x l) (hb : base' ≤ base) : RowG w base' g x l := by
  obtain ⟨cap, e, ho⟩ := h
  exact ⟨cap, e, owns_mono ho hb⟩
/-- rows, so far k of them, in the slice v; gs: their blocks -/
structure Rw (w : World) (base : Nat) (v : Value) (k : Nat) (rs : List (List Int)) (vs : List Value) (gs : List Nat) : Prop where
  own : w.ownsRow base 23 1 v k vs
  lv : vs.length = k
  lr : rs.length = k
  lg : gs.length = k
  row : ∀ i, i < k → RowG w base (gs.getD i 0) (vs.getD i undef) (rs.getD i []) ∧ v.ownBlock ≠ some (gs.getD i 0)
  apart : gs.Nodup
theorem Rw.nil (w : World) (base : Nat) : Rw w base (.slice none 0 0) 0 [] [] [] := ⟨World.ownsRow_nil _ _ _ _, rfl, rfl, rfl, fun i hi => by omega, List.nodup_nil⟩
theorem Rw.sans {F : Nat → Prop} {w w' : World} {base : Nat} {v : Value} {k : Nat} {rs : List (List Int)} {vs : List Value} {gs : List Nat} (h : Rw w base v k rs vs gs) (s : Sans F w w') (hF : ∀ j, base ≤ j → ¬ F j) : Rw w' base v k rs vs gs :=
  ⟨owns_sans h.own s hF, h.lv, h.lr, h.lg, fun i hi => ⟨(h.row i hi).1.keep s (hF _ (h.row i hi).1.lt.1), (h.row i hi).2⟩, h.apart⟩
theorem Rw.mono {w : World} {base base' : Nat} {v : Value} {k : Nat} {rs : List (List Int)} {vs : List Value} {gs : List Nat} (h : Rw w base v k rs vs gs) (hb : base' ≤ base) : Rw w base' v k rs vs gs :=
  ⟨owns_mono h.own hb, h.lv, h.lr, h.lg, fun i hi => ⟨(h.row i hi).1.mono hb, (h.row i hi).2⟩, h.apart⟩
theorem Rw.rb {w : World} {base : Nat} {v : Value} {k : Nat} {rs : List (List Int)} {vs : List Value} {gs : List Nat} (h : Rw w base v k rs vs gs) : Rb w base v k rs vs := by
  refine ⟨h.own, h.lv, h.lr, fun i hi => ?_⟩
  obtain ⟨⟨cap, e, ho⟩, hne⟩ := h.row i hi
  obtain ⟨a, cap', e', hz, h1, h2, h3, _⟩ := zr_of_owns ho
  simp only [Value.slice.injEq] at e'
  obtain ⟨e1, _, e3⟩ := e'
  subst e1 e3
  exact ⟨_, _, e, hz, h1, h2, h3, fun ad e => by cases e; exact ⟨(ho.lt _ rfl).1, (ho.lt _ rfl).2, hne⟩⟩
theorem getDn_snoc_lt (l : List Nat) (x : Nat) {i : Nat} (h : i < l.length) : (l ++ [x]).getD i 0 = l.getD i 0 := by
  rw [List.getD_eq_getElem?_getD, List.getElem?_append_left h, List.getD_eq_getElem?_getD]
theorem getDn_snoc_eq (l : List Nat) (x : Nat) : (l ++ [x]).getD l.length 0 = x := by
  rw [List.getD_eq_getElem?_getD, List.getElem?_append_right (Nat.le_refl _)]
  simp
theorem Rw.push {w w' : World} {o : Obj} {base N : Nat} {v v' x : Value} {k : Nat} {rs : List (List Int)} {vs : List Value} {gs : List Nat} {l : List Int} (h : Rw w base v k rs vs gs) (hlow : ∀ g ∈ gs, g < N) (hv : ∀ g, v.ownBlock = some g → g < N) (hx : w.ownsRow N 3 1 x l.length (zcells l)) (hb : base ≤ N) (h0 : 0 < l.length)
    (hown : w'.ownsRow base 23 1 v' (k + 1) (vs ++ [x])) (hg : (w.alloc o).grownBy w' v.ownBlock) (hat : v'.ownBlock = v.ownBlock ∨ v'.ownBlock = some (w.alloc o).heap.size) : ∃ g, Rw w' base v' (k + 1) (rs ++ [l]) (vs ++ [x]) (gs ++ [g]) := by
  have s : Sans (fun j => v.ownBlock = some j) w w' := (Sans.alloc w o).then (Sans.of_grown hg (fun j e => e))
  have keep : ∀ {g : Nat} {x : Value} {l : List Int}, RowG w base g x l → v.ownBlock ≠ some g → RowG w' base g x l ∧ v'.ownBlock ≠ some g := by
    intro g x l hr hne
    refine ⟨hr.keep s hne, ?_⟩
    rcases hat with e | e
    · rw [e]; exact hne
    · rw [e, World.size_alloc]
      intro e2
      have := hr.lt
      simp only [Option.some.injEq] at e2
      omega
  rcases hx.2 with ⟨_, h1⟩ | ⟨g, cap, cur, e, hb2, hg2, r⟩
  · omega
  · subst e
    have hxg : RowG w base g (.slice (some ⟨g, 0, none⟩) l.length cap) l := ⟨cap, rfl, owns_mono hx hb⟩
    have hvg : v.ownBlock ≠ some g := fun e => by have := hv g e; omega
    refine ⟨g, hown, by rw [List.length_append, h.lv]; rfl, by rw [List.length_append, h.lr]; rfl, by rw [List.length_append, h.lg]; rfl, fun i hi => ?_, ?_⟩
    · by_cases e : i < k
      · rw [getDn_snoc_lt gs g (by rw [h.lg]; exact e), getD_snoc_lt vs _ undef (by rw [h.lv]; exact e), getD_snoc_lt rs l [] (by rw [h.lr]; exact e)]
        exact keep (h.row i e).1 (h.row i e).2
      · obtain rfl : i = k := by omega
        have e1 := getD_snoc_eq vs (.slice (some ⟨g, 0, none⟩) l.length cap) undef
        have e2 := getD_snoc_eq rs l []
        have e3 := getDn_snoc_eq gs g
        rw [h.lv] at e1
        rw [h.lr] at e2
        rw [h.lg] at e3
        rw [e1, e2, e3]
        exact keep hxg hvg
    · rw [List.nodup_append]
      refine ⟨h.apart, by simp, fun a ha b hb => ?_⟩
      have := hlow a ha
      simp only [List.mem_singleton] at hb
      omega
theorem Rw.low {w : World} {base : Nat} {v : Value} {k : Nat} {rs : List (List Int)} {vs : List Value} {gs : List Nat} (h : Rw w base v k rs vs gs) : ∀ g ∈ gs, g < w.heap.size := by
  intro g hg
  obtain ⟨i, hi, rfl⟩ := List.getElem_of_mem hg
  have hr := (h.row i (by rw [← h.lg]; exact hi)).1.lt.2
  rw [List.getD_eq_getElem?_getD, List.getElem?_eq_getElem hi] at hr
  exact hr
theorem Rw.high {w : World} {base : Nat} {v : Value} {k : Nat} {rs : List (List Int)} {vs : List Value} {gs : List Nat} (h : Rw w base v k rs vs gs) : ∀ g ∈ gs, base ≤ g := by
  intro g hg
  obtain ⟨i, hi, rfl⟩ := List.getElem_of_mem hg
  have hr := (h.row i (by rw [← h.lg]; exact hi)).1.lt.1
  rw [List.getD_eq_getElem?_getD, List.getElem?_eq_getElem hi] at hr
  exact hr
theorem Rw.mem {w : World} {base : Nat} {v : Value} {k : Nat} {rs : List (List Int)} {vs : List Value} {gs : List Nat} (h : Rw w base v k rs vs gs) {t : Nat} (ht : t < k) : gs.getD t 0 ∈ gs := by
  have hl := h.lg
  rw [List.getD_eq_getElem?_getD, List.getElem?_eq_getElem (show t < gs.length by omega)]
  exact List.getElem_mem _
/-- what row t leads to, and that it may be written -/
theorem Rw.at {w : World} {base : Nat} {v : Value} {k : Nat} {rs : List (List Int)} {vs : List Value} {gs : List Nat} (h : Rw w base v k rs vs gs) {t : Nat} (ht : t < k) : ∃ b vc cap, v = .slice (some ⟨b, 0, none⟩) k vc ∧ base ≤ b ∧ b < w.heap.size ∧ b ≠ gs.getD t 0 ∧ w.cell? ⟨b, t, none⟩ = some (.slice (some ⟨gs.getD t 0, 0, none⟩) (rs.getD t []).length cap) ∧ (∀ j, j < (rs.getD t []).length → w.cell? ⟨gs.getD t 0, j, none⟩ = some (.int .i64 ((rs.getD t []).getD j 0))) ∧ (∀ j, w.frozen? ⟨gs.getD t 0, j, none⟩ = false) ∧ base ≤ gs.getD t 0 := by
  obtain ⟨⟨cap, e, ho⟩, hne⟩ := h.row t ht
  have hv := h.lv
  rcases h.own.2 with ⟨_, h0⟩ | ⟨b, vc, cur, e2, hb, hg, r⟩
  · omega
  · subst e2
    have hc := h.own.cellAt t (by omega)
    rw [List.getElem?_eq_getElem (show t < vs.length by omega)] at hc
    rw [List.getD_eq_getElem?_getD, List.getElem?_eq_getElem (show t < vs.length by omega)] at e
    simp only [Option.getD_some] at e
    rw [e] at hc
    refine ⟨b, vc, cap, rfl, hb, (h.own.lt b rfl).2, fun e => hne (by rw [← e]; rfl), hc, fun j hj => ?_, fun j => ho.frozenAt j, (ho.lt _ rfl).1⟩
    rw [ho.cellAt j (by omega)]
    exact zcells_at hj
theorem getD_set_ne {α : Type} {l : List α} {i j : Nat} {x d : α} (h : i ≠ j) : (l.set i x).getD j d = l.getD j d := by
  rw [List.getD_eq_getElem?_getD, List.getD_eq_getElem?_getD, List.getElem?_set_ne h]
theorem getD_set_eq {α : Type} {l : List α} {i : Nat} {x d : α} (h : i < l.length) : (l.set i x).getD i d = x := by
  rw [List.getD_eq_getElem?_getD, List.getElem?_set_self h]
  rfl
/-- a number stored into row t -/
theorem Rw.store {w : World} {base : Nat} {v : Value} {k : Nat} {rs : List (List Int)} {vs : List Value} {gs : List Nat} (h : Rw w base v k rs vs gs) {t : Nat} (ht : t < k) (j : Nat) (z : Int) : Rw (w.setCell ⟨gs.getD t 0, j, none⟩ (.int .i64 z)) base v k (rs.set t ((rs.getD t []).set j z)) vs gs := by
  have s : Sans (fun i => i = gs.getD t 0) w (w.setCell ⟨gs.getD t 0, j, none⟩ (.int .i64 z)) := Sans.of_set _ _ _ rfl
  obtain ⟨⟨cap, e, ho⟩, hne⟩ := h.row t ht
  refine ⟨owns_s1 h.own s (fun i ei e2 => hne (by rw [ei, e2])), h.lv, by rw [List.length_set]; exact h.lr, h.lg, fun i hi => ?_, h.apart⟩
  by_cases e1 : i = t
  · subst e1
    rw [getD_set_eq (by rw [h.lr]; exact hi)]
    refine ⟨⟨cap, by rw [List.length_set]; exact e, ?_⟩, hne⟩
    rw [List.length_set, ← zcells_set1]
    exact (ho.stored j _).1
  · rw [getD_set_ne (fun e => e1 e.symm)]
    refine ⟨(h.row i hi).1.keep s ?_, (h.row i hi).2⟩
    intro e2
    have hl := h.lg
    rw [List.getD_eq_getElem?_getD, List.getD_eq_getElem?_getD, List.getElem?_eq_getElem (show i < gs.length by omega), List.getElem?_eq_getElem (show t < gs.length by omega)] at e2
    simp only [Option.getD_some] at e2
    have hp := List.pairwise_iff_getElem.1 h.apart
    rcases Nat.lt_or_gt_of_ne e1 with h3 | h3
    · exact hp i t (by omega) (by omega) h3 e2
    · exact hp t i (by omega) (by omega) h3 e2.symm
end Go.Proofs.Ytphaaolnmbadcaa
