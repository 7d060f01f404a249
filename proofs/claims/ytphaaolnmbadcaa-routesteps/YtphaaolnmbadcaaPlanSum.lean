/-
  How many are beside nodes in all, where ports lead, which hops there are: of edges that may be. Conditions: none.
-/
import Derived.Test.YtphaaolnmbadcaaPlanMk
namespace Go.Proofs.Ytphaaolnmbadcaa.Plan
set_option linter.unusedVariables false

theorem lay_new (x : Int) : ∀ l : List Int, x ∉ l → (lay l x).length = l.length + 1
  | [], h => rfl
  | y :: r, h => by
    have h1 : y ≠ x := fun e => h (e ▸ List.mem_cons_self)
    have h2 : x ∉ r := fun e => h (List.mem_cons_of_mem _ e)
    unfold lay
    split
    · rw [List.length_cons, lay_new x r h2, List.length_cons]
    · first | rfl | (rw [if_neg h1]; rfl)
theorem fold_new : ∀ (xs l : List Int), xs.Nodup → (∀ x ∈ xs, x ∉ l) → (xs.foldl lay l).length = l.length + xs.length
  | [], l, _, _ => rfl
  | x :: r, l, h1, h2 => by
    obtain ⟨a1, a2⟩ := List.nodup_cons.1 h1
    have h3 := lay_new x l (h2 x List.mem_cons_self)
    rw [List.foldl_cons, fold_new r (lay l x) a2 (fun y hy hm => by
      rcases (mem_lay x y l).1 hm with e | e
      · exact a1 (e ▸ hy)
      · exact h2 y (List.mem_cons_of_mem _ hy) e), h3, List.length_cons]
    omega
theorem raw_cons (e : Int × Int) (r : List (Int × Int)) (v : Int) : raw (e :: r) v = rawE v e ++ raw r v := by simp [raw]
theorem raw_nodup {N : Int} (v : Int) : ∀ es : List (Int × Int), (∀ e ∈ es, Good N e) → es.Nodup → (raw es v).Nodup
  | [], _, _ => by simp [raw]
  | e :: r, hg, hn => by
    obtain ⟨a1, a2⟩ := List.nodup_cons.1 hn
    have ih := raw_nodup v r (fun x hx => hg x (List.mem_cons_of_mem _ hx)) a2
    rw [raw_cons, List.nodup_append]
    refine ⟨?_, ih, fun a ha b hb hab => ?_⟩
    · have := rawE_len v e
      match h : rawE v e, this with
      | [], _ => exact List.nodup_nil
      | [y], _ => exact List.nodup_cons.2 ⟨List.not_mem_nil, List.nodup_nil⟩
    · subst hab
      obtain ⟨_, h2⟩ := (mem_rawE v a e).1 ha
      obtain ⟨_, h3⟩ := (mem_raw v a r).1 hb
      have ge := hg e List.mem_cons_self
      rcases h2 with rfl | rfl <;> rcases h3 with h3 | h3
      · exact a1 h3
      · have := hg _ (List.mem_cons_of_mem _ h3)
        have h4 := ge.2.1
        have h5 := this.2.1
        simp only at h4 h5
        omega
      · have := hg _ (List.mem_cons_of_mem _ h3)
        have h4 := ge.2.1
        have h5 := this.2.1
        simp only at h4 h5
        omega
      · exact a1 h3
theorem bes_raw {N : Int} {es : List (Int × Int)} (hg : ∀ e ∈ es, Good N e) (hn : es.Nodup) (v : Int) : (bes es v).length = (raw es v).length := by
  unfold bes
  rw [fold_new _ [] (raw_nodup v es hg hn) (by simp)]
  simp
/-- how many are beside the first k nodes -/
def sumB (es : List (Int × Int)) : Nat → Nat
  | 0 => 0
  | k + 1 => sumB es k + (bes es (k : Int)).length
def sumR (es : List (Int × Int)) : Nat → Nat
  | 0 => 0
  | k + 1 => sumR es k + (raw es (k : Int)).length
def cnt (e : Int × Int) : Nat → Nat
  | 0 => 0
  | k + 1 => cnt e k + (rawE (k : Int) e).length
theorem sumR_cons (e : Int × Int) (r : List (Int × Int)) (k : Nat) : sumR (e :: r) k = cnt e k + sumR r k := by
  induction k with
  | zero => rfl
  | succ k ih =>
    rw [sumR, sumR, cnt, ih, raw_cons, List.length_append]
    omega
theorem cnt_eq (a b k : Nat) (h : a < b) : cnt ((a : Int), (b : Int)) k = (if a < k then 1 else 0) + (if b < k then 1 else 0) := by
  induction k with
  | zero => simp [cnt]
  | succ k ih =>
    rw [cnt, ih]
    unfold rawE
    by_cases h1 : a = k
    · have h2 : ¬ b = k := by omega
      have e1 : ((a : Int) = (k : Int) ∧ (b : Int) ≠ (k : Int)) := ⟨by omega, by omega⟩
      have e2 : ¬ ((b : Int) = (k : Int) ∧ (a : Int) ≠ (k : Int)) := fun h => by omega
      simp only [if_pos e1, if_neg e2]
      split <;> split <;> split <;> split <;> simp <;> omega
    · by_cases h2 : b = k
      · have e1 : ¬ ((a : Int) = (k : Int) ∧ (b : Int) ≠ (k : Int)) := fun h => by omega
        have e2 : ((b : Int) = (k : Int) ∧ (a : Int) ≠ (k : Int)) := ⟨by omega, by omega⟩
        simp only [if_neg e1, if_pos e2]
        split <;> split <;> split <;> split <;> simp <;> omega
      · have e1 : ¬ ((a : Int) = (k : Int) ∧ (b : Int) ≠ (k : Int)) := fun h => by omega
        have e2 : ¬ ((b : Int) = (k : Int) ∧ (a : Int) ≠ (k : Int)) := fun h => by omega
        simp only [if_neg e1, if_neg e2]
        split <;> split <;> split <;> split <;> simp <;> omega
theorem sumR_all {N : Nat} : ∀ es : List (Int × Int), (∀ e ∈ es, Good (N : Int) e) → sumR es N = 2 * es.length
  | [], _ => by
    have : ∀ k, sumR [] k = 0 := fun k => by
      induction k with
      | zero => rfl
      | succ k ih => rw [sumR, ih]; simp [raw]
    simp [this]
  | e :: r, hg => by
    have ge := hg e List.mem_cons_self
    obtain ⟨a, b⟩ := e
    obtain ⟨h1, h2, h3⟩ := ge
    simp only at h1 h2 h3
    obtain ⟨a, rfl⟩ := Int.eq_ofNat_of_zero_le h1
    obtain ⟨b, rfl⟩ := Int.eq_ofNat_of_zero_le (show 0 ≤ b by omega)
    rw [sumR_cons, sumR_all r (fun x hx => hg x (List.mem_cons_of_mem _ hx)), cnt_eq a b N (by omega), if_pos (by omega), if_pos (by omega), List.length_cons]
    omega
theorem sumB_raw {N : Int} {es : List (Int × Int)} (hg : ∀ e ∈ es, Good N e) (hn : es.Nodup) (k : Nat) : sumB es k = sumR es k := by
  induction k with
  | zero => rfl
  | succ k ih => rw [sumB, sumR, ih, bes_raw hg hn]
theorem sumB_full (J : Nat) {N : Nat} (h : N ≤ 6) : sumB (full J N) N = 2 * (full J N).length := by
  have hk := (edgesOk_iff (N : Int) (full J N)).1 (full_ok h)
  rw [sumB_raw hk.1 hk.2.1, sumR_all _ hk.1]
theorem sumB_mono (es : List (Int × Int)) {j k : Nat} (h : j ≤ k) : sumB es j ≤ sumB es k := by
  induction k with
  | zero => simp at h; subst h; exact Nat.le_refl _
  | succ k ih =>
    by_cases e : j = k + 1
    · rw [e]; exact Nat.le_refl _
    · have := ih (by omega)
      rw [sumB]
      omega
/-- who is beside a node of such a plan -/
theorem bes_in {J N : Nat} (h : N ≤ 6) {v u : Int} (hu : u ∈ bes (full J N) v) : u ≠ v ∧ 0 ≤ u ∧ u < N ∧ 0 ≤ v ∧ v < N ∧ v ∈ bes (full J N) u := by
  obtain ⟨h1, h2⟩ := (mem_bes _ v u).1 hu
  have hm : v ∈ bes (full J N) u := (mem_bes _ u v).2 ⟨fun e => h1 e.symm, h2.symm⟩
  rcases h2 with h2 | h2
  · obtain ⟨x, y, a1, a2, e⟩ := mem_full h2
    simp only [Prod.mk.injEq] at e
    exact ⟨h1, by omega, by omega, by omega, by omega, hm⟩
  · obtain ⟨x, y, a1, a2, e⟩ := mem_full h2
    simp only [Prod.mk.injEq] at e
    exact ⟨h1, by omega, by omega, by omega, by omega, hm⟩
theorem getD_mem {l : List Int} {i : Nat} (h : i < l.length) : l.getD i 0 ∈ l := by
  rw [List.getD_eq_getElem?_getD, List.getElem?_eq_getElem h]
  exact List.getElem_mem h
theorem asc_at {l : List Int} (h : Asc l) {i j : Nat} (hij : i < j) (hj : j < l.length) : l.getD i 0 < l.getD j 0 := by
  have := List.pairwise_iff_getElem.1 h i j (by omega) hj hij
  rw [List.getD_eq_getElem?_getD, List.getElem?_eq_getElem (show i < l.length by omega), List.getD_eq_getElem?_getD, List.getElem?_eq_getElem hj]
  exact this
theorem port_at {es : List (Int × Int)} {v : Int} {i : Nat} (h : i < (bes es v).length) : port es v ((bes es v).getD i 0) = (i : Int) + 1 := by
  unfold port
  rw [place_hit _ (bes es v) 0 i h rfl (fun j hj => by have := asc_at (bes_asc es v) hj h; omega), Nat.zero_add]
theorem hopsOf_full {J N : Nat} (h : N ≤ 6) (v : Nat) : (hopsOf (full J N) v).length = (bes (full J N) (v : Int)).length := by
  unfold hopsOf
  rw [List.length_map]
  congr 1
  rw [List.filter_eq_self]
  intro u hu
  obtain ⟨_, h1, h2, _⟩ := bes_in h hu
  simp
  omega
theorem hopsTo_full {J N : Nat} (h : N ≤ 6) (k : Nat) : (hopsTo (full J N) k).length = sumB (full J N) k := by
  induction k with
  | zero => simp [hopsTo, sumB]
  | succ k ih => rw [hopsTo_succ, List.length_append, ih, hopsOf_full h, sumB]
theorem upto_N {N : Nat} (h : N ≤ 6) : upto (N : Int) = N := by unfold upto; omega
theorem hops_len (J : Nat) {N : Nat} (h : N ≤ 6) : (hops (N : Int) (full J N)).length = 2 * (full J N).length := by
  unfold hops
  rw [upto_N h, hopsTo_full h, sumB_full J h]
/-- hops in their order -/
def Lex (a b : Int × Int) : Prop := a.1 < b.1 ∨ a.1 = b.1 ∧ a.2 < b.2
theorem mem_hopsOf {es : List (Int × Int)} {v : Nat} {e : Int × Int} (h : e ∈ hopsOf es v) : e.1 = (v : Int) ∧ e.2 ∈ bes es (v : Int) ∧ 0 ≤ e.2 ∧ e.2 < 6 := by
  unfold hopsOf at h
  obtain ⟨u, hu, rfl⟩ := List.mem_map.1 h
  obtain ⟨h1, h2⟩ := List.mem_filter.1 hu
  simp only [Bool.and_eq_true, decide_eq_true_eq] at h2
  exact ⟨rfl, h1, h2⟩
theorem mem_hopsTo {es : List (Int × Int)} {k : Nat} {e : Int × Int} (h : e ∈ hopsTo es k) : ∃ v : Nat, v < k ∧ e ∈ hopsOf es v := by
  unfold hopsTo at h
  obtain ⟨v, hv, he⟩ := List.mem_flatMap.1 h
  exact ⟨v, List.mem_range.1 hv, he⟩
theorem hopsOf_lex (es : List (Int × Int)) (v : Nat) : (hopsOf es v).Pairwise Lex := by
  unfold hopsOf
  rw [List.pairwise_map]
  exact List.Pairwise.imp (fun h => .inr ⟨rfl, h⟩) ((bes_asc es (v : Int)).filter _)
theorem hopsTo_lex (es : List (Int × Int)) (k : Nat) : (hopsTo es k).Pairwise Lex := by
  induction k with
  | zero => simp [hopsTo]
  | succ k ih =>
    rw [hopsTo_succ, List.pairwise_append]
    refine ⟨ih, hopsOf_lex es k, fun a ha b hb => ?_⟩
    obtain ⟨v, hv, h1⟩ := mem_hopsTo ha
    have e1 := (mem_hopsOf h1).1
    have e2 := (mem_hopsOf hb).1
    exact .inl (by omega)
theorem hops_back {J N : Nat} (h : N ≤ 6) {e : Int × Int} (he : e ∈ hops (N : Int) (full J N)) : (e.2, e.1) ∈ hops (N : Int) (full J N) ∧ e.2 ∈ bes (full J N) e.1 := by
  unfold hops at he ⊢
  rw [upto_N h] at he ⊢
  obtain ⟨v, hv, h1⟩ := mem_hopsTo he
  obtain ⟨e1, e2, e3, e4⟩ := mem_hopsOf h1
  obtain ⟨_, a1, a2, a3, a4, a5⟩ := bes_in h e2
  obtain ⟨u, hu⟩ := Int.eq_ofNat_of_zero_le a1
  refine ⟨?_, by rw [e1]; exact e2⟩
  unfold hopsTo
  refine List.mem_flatMap.2 ⟨u, List.mem_range.2 (by omega), ?_⟩
  unfold hopsOf
  refine List.mem_map.2 ⟨e.1, List.mem_filter.2 ⟨?_, ?_⟩, ?_⟩
  · rw [← hu, e1]; exact a5
  · simp
    omega
  · rw [← hu]
theorem port_pos {es : List (Int × Int)} {v u : Int} (h : u ∈ bes es v) : 1 ≤ port es v u := place_mem h 0
end Go.Proofs.Ytphaaolnmbadcaa.Plan
