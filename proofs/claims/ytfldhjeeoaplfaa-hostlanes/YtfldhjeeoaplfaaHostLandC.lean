/-
  Package host, as it landed: slices.Delete of the first packet, Next; all that package host is to come to. Conditions: none but that the host is such.
-/
import Derived.Test.YtfldhjeeoaplfaaHostLandB
import Derived.Deep.RegionLaw
import Derived.Deep.RegionHeld3
import Derived.Deep.DeepCutAuto
namespace Go.Proofs.Ytfldhjeeoaplfaa
open Go.ChangeShapes Go.WideShapes Go.ChangeAt Go.RowKit
set_option linter.unusedVariables false

namespace Hst
/-- cells laid one behind the other -/
def laid (xs : List Value) (o : Nat) : List Value → List Value
  | [] => xs
  | v :: vs => laid (xs.set o v) (o + 1) vs
theorem laid_length : ∀ (vs : List Value) (xs : List Value) (o : Nat), (laid xs o vs).length = xs.length
  | [], _, _ => rfl
  | v :: vs, xs, o => by rw [laid, laid_length vs, List.length_set]
theorem laid_at : ∀ (vs : List Value) (xs : List Value) (o j : Nat), o + vs.length ≤ xs.length → (laid xs o vs)[j]? = if o ≤ j ∧ j < o + vs.length then vs[j - o]? else xs[j]?
  | [], xs, o, j, h => by
    rw [laid, if_neg (fun e => by simp only [List.length_nil] at e; omega)]
  | v :: vs, xs, o, j, h => by
    simp only [List.length_cons] at h
    rw [laid, laid_at vs (xs.set o v) (o + 1) j (by rw [List.length_set]; omega)]
    simp only [List.length_cons]
    by_cases h1 : j = o
    · subst h1
      rw [if_neg (by omega), if_pos (by omega), List.getElem?_set_self (by omega)]
      simp
    · by_cases h2 : o + 1 ≤ j ∧ j < o + 1 + vs.length
      · rw [if_pos h2, if_pos (by omega), show j - o = (j - (o + 1)) + 1 by omega, List.getElem?_cons_succ]
      · rw [if_neg h2, if_neg (by omega), List.getElem?_set_ne (fun e => h1 e.symm)]
theorem owns_laid {base n size g cap : Nat} {e : TypeId} : ∀ (vs : List Value) (o : Nat) (w : World) (xs : List Value), w.ownsRow base e size (.slice (some ⟨g, 0, none⟩) n cap) n xs → (w.setCells g o vs).ownsRow base e size (.slice (some ⟨g, 0, none⟩) n cap) n (laid xs o vs)
  | [], _, _, _, h => h
  | v :: vs, o, w, xs, h => owns_laid vs (o + 1) (w.setCell ⟨g, o, none⟩ v) (xs.set o v) (h.stored o v).1
theorem sans_sets {F : Nat → Prop} (g : Nat) (hg : F g) : ∀ (vs : List Value) (o : Nat) (w : World), Sans F w (w.setCells g o vs)
  | [], _, w => Sans.refl F w
  | v :: vs, o, w => (Sans.of_set w ⟨g, o, none⟩ v hg).trans (sans_sets g hg vs (o + 1) (w.setCell ⟨g, o, none⟩ v)) (fun k hk => .inl hk)
theorem owns_cut4 {w : World} {base g cap n m : Nat} {e : TypeId} {xs : List Value} (h : w.ownsRow base e 4 (.slice (some ⟨g, 0, none⟩) n cap) n xs) (hm : m ≤ n) : w.ownsRow base e 4 (.slice (some ⟨g, 0, none⟩) m cap) m (xs.take (m * 4)) := by
  have hl := h.1
  refine ⟨by rw [List.length_take, hl]; omega, ?_⟩
  rcases h.2 with ⟨e, _⟩ | ⟨g', cp, cur, e, hb, hg, hnc, hcm, hcs, htake⟩
  · cases e
  · simp only [Value.slice.injEq, Option.some.injEq, Addr.mk.injEq, and_true, true_and] at e
    obtain ⟨rfl, rfl⟩ := e
    refine .inr ⟨g, cap, cur, rfl, hb, hg, by omega, hcm, hcs, ?_⟩
    rw [← htake, List.take_take]
    congr 1
    omega
theorem laid_first {xs news zs : List Value} {m : Nat} (h : xs.length = (m + 1) * 4) (hn : news.length = m * 4) (hz : zs.length = 4) : (laid (laid xs 0 news) (m * 4) zs).take (m * 4) = news := by
  apply List.ext_getElem?
  intro j
  rw [List.getElem?_take]
  by_cases hj : j < m * 4
  · rw [if_pos hj, laid_at _ _ _ _ (by rw [laid_length]; omega), if_neg (by omega), laid_at _ _ _ _ (by omega), if_pos (by omega), Nat.sub_zero]
  · rw [if_neg hj, List.getElem?_eq_none (by omega)]
end Hst
theorem hclear_any {P : Program} (w : World) (t e ty : TypeId) (z : Value) (ht : P.underlying t = some (.slice e)) (hv : ∀ w, (zeroValue e).run P w = .ok z w) (b o n c m : Nat) (hn : 0 < n) (hm : (Builtin.zeroCells z.cells n).toList.length = m)
    (h1 : ∀ x ∈ (Builtin.zeroCells z.cells n).toList, x.oneCell' = true) (hc : ∀ j, j < m → (w.cell? ⟨b, o + j, none⟩).isSome = true) (hf : ∀ j, j < m → w.frozen? ⟨b, o + j, none⟩ = false) :
    (Builtin.clear_ #[t] ty #[.slice (some ⟨b, o, none⟩) n c]).run P w = .ok (.tuple #[]) (w.setCells b o (Builtin.zeroCells z.cells n).toList) := by
  have hst := run_storeCells_cells (P := P) b o (Builtin.zeroCells z.cells n).toList 0 w (by rw [hm]; simpa using hc) (by rw [hm]; simpa using hf) h1
  simp only [Nat.add_zero] at hst
  obtain ⟨k, rfl⟩ : ∃ k, n = k + 1 := ⟨n - 1, by omega⟩
  simp [Builtin.clear_, run_underlying ht, hv, hst]
theorem hzeros_len : (Builtin.zeroCells (Value.agg #[.int .i64 0, .int .i64 0, .int .i64 0, .int .u32 0]).cells 1).toList.length = 4 := by
  simp [Builtin.zeroCells, Value.cells]
theorem hzeros_one : ∀ x ∈ (Builtin.zeroCells (Value.agg #[.int .i64 0, .int .i64 0, .int .i64 0, .int .u32 0]).cells 1).toList, x.oneCell' = true := by
  intro x hx
  rw [show (Builtin.zeroCells (Value.agg #[.int .i64 0, .int .i64 0, .int .i64 0, .int .u32 0]).cells 1).toList = [.int .i64 0, .int .i64 0, .int .i64 0, .int .u32 0] by kernel_rfl] at hx
  simp only [List.mem_cons, List.not_mem_nil, or_false] at hx
  rcases hx with rfl | rfl | rfl | rfl <;> rfl
theorem hcells_one (xs : List Pk) : ∀ u ∈ kcells xs, u.oneCell' = true := by
  intro u hu
  obtain ⟨x, _, hx⟩ := List.mem_flatMap.1 hu
  exact four_one _ _ _ _ u hx
theorem hkcells_cons (x : Pk) (r : List Pk) : kcells (x :: r) = [.int .i64 x.s, .int .i64 x.d, .int .i64 x.l, .int .u32 x.b] ++ kcells r := by simp [kcells]
set_option maxHeartbeats 2000000 in
set_option maxRecDepth 100000 in
theorem pdel_any {g cap m : Nat} {x : Pk} {r : List Pk} {w : World} (h : w.ownsRow 0 27 4 (.slice (some ⟨g, 0, none⟩) (m + 1) cap) (m + 1) (kcells (x :: r))) (hr : r.length = m) (hb : m ≤ 64) :
    Calls Try.prog 22 #[.slice (some ⟨g, 0, none⟩) (m + 1) cap, .int .i64 0, .int .i64 1] w fun e w' => e = .returned (.slice (some ⟨g, 0, none⟩) m cap) ∧ w'.ownsRow 0 27 4 (.slice (some ⟨g, 0, none⟩) m cap) m (kcells r) ∧ Sans (fun k => k = g) w w' := by
  obtain ⟨i0, hi0, hz0, hz1, hz2⟩ := info_parts infoPk
  have hcp := owns_cap h
  obtain ⟨hcn, hmx⟩ := hcp
  unfold maxLen at hmx
  have h0 : w.drew.ownsRow 0 27 4 (.slice (some ⟨g, 0, none⟩) (m + 1) cap) (m + 1) (kcells (x :: r)) := h
  obtain ⟨xs, hxs⟩ : ∃ xs, xs = kcells (x :: r) := ⟨_, rfl⟩
  obtain ⟨news, hnews⟩ : ∃ news, news = kcells r := ⟨_, rfl⟩
  obtain ⟨zs, hzs⟩ : ∃ zs, zs = (Builtin.zeroCells (Value.agg #[.int .i64 0, .int .i64 0, .int .i64 0, .int .u32 0]).cells 1).toList := ⟨_, rfl⟩
  have hzl : zs.length = 4 := by rw [hzs]; exact hzeros_len
  have hlen : xs.length = (m + 1) * 4 := by rw [hxs, kcells_length, List.length_cons, hr]
  have hnl : news.length = m * 4 := by rw [hnews, kcells_length, hr]
  have hat : ∀ t u, news[t]? = some u → xs[4 + t]? = some u := by
    intro t u hu
    rw [hxs, hkcells_cons, List.getElem?_append_right (by simp), ← hnews]
    simp only [List.length_cons, List.length_nil]
    rw [show 4 + t - (0 + 1 + 1 + 1 + 1) = t by omega]
    exact hu
  rw [← hxs] at h0
  have s1 : Hid (news.length = m * 4) := hnl
  have s2 : Hid (∀ u ∈ news, u.oneCell' = true) := by rw [hnews]; exact hcells_one r
  have s3 : Hid (∀ t, t < news.length → (w.drew.cell? ⟨g, 0 + 0 * 4 + t, none⟩).isSome = true ∧ w.drew.frozen? ⟨g, 0 + 0 * 4 + t, none⟩ = false) := by
    intro t ht
    rw [hnl] at ht
    refine ⟨?_, h0.frozenAt _⟩
    rw [show 0 + 0 * 4 + t = t by omega, h0.cellAt t (by omega), List.getElem?_eq_getElem (by omega)]
    rfl
  obtain ⟨W1, hW1⟩ : ∃ W1, W1 = w.drew.setCells g (0 + 0 * 4) news := ⟨_, rfl⟩
  have h1 : W1.ownsRow 0 27 4 (.slice (some ⟨g, 0, none⟩) (m + 1) cap) (m + 1) (Hst.laid xs 0 news) := by
    rw [hW1]
    exact Hst.owns_laid news 0 w.drew xs h0
  have hzv : ∀ w, (zeroValue 27).run Try.prog w = .ok (.agg #[.int .i64 0, .int .i64 0, .int .i64 0, .int .u32 0]) w := fun w => Try.zeroValue27 w
  have hcl : ∀ ty, (Builtin.clear_ #[31] ty #[.slice (some ⟨g, m * 4, none⟩) 1 (cap - m)]).run Try.prog W1 = .ok (.tuple #[]) (W1.setCells g (m * 4) zs) := by
    intro ty
    rw [hzs]
    refine hclear_any W1 _ 27 ty _ Try.underlying31 hzv g (m * 4) 1 _ 4 (by omega) hzeros_len hzeros_one (fun t ht => ?_) (fun t ht => h1.frozenAt _)
    rw [h1.cellAt (m * 4 + t) (by omega), List.getElem?_eq_getElem (by rw [Hst.laid_length, hlen]; omega)]
    rfl
  have HE : Hid ((W1.setCells g (m * 4) zs).ownsRow 0 27 4 (.slice (some ⟨g, 0, none⟩) m cap) m (kcells r) ∧ Sans (fun k => k = g) w (W1.setCells g (m * 4) zs)) := by
    refine ⟨?_, ?_⟩
    · have h2 := Hst.owns_cut4 (Hst.owns_laid zs (m * 4) W1 _ h1) (m := m) (by omega)
      rw [Hst.laid_first hlen hnl hzl, hnews] at h2
      exact h2
    · refine Sans.trans (F := fun k => k = g) (w1 := W1) ?_ (Hst.sans_sets (F := fun k => k = g) g rfl _ _ W1) (fun k hk => .inl hk)
      rw [hW1]
      exact Sans.trans (F := fun k => k = g) (w1 := w.drew) (Sans.of_below (drewN_below w 1)) (Hst.sans_sets (F := fun k => k = g) g rfl news _ w.drew) (fun k hk => .inl hk)
  have HW : Hid (W1 = w.drew.setCells g (0 + 0 * 4) news) := hW1
  have hd1 : m + 1 - m = 1 := by omega
  have hmc : m ≤ cap := by omega
  have hmc1 : m + 1 ≤ cap := by omega
  have hne : ¬ cap = m := by omega
  have hi1 : (1 : Int) ≤ (m : Int) + 1 := by omega
  by_cases hc1 : cap = 1
  · have hm0 : m = 0 := by omega
    have hnil : news.length = 0 := by rw [hnl, hm0]
    have hsrc : Hid (∀ t u, news[t]? = some u → w.drew.cell? ((⟨g, 0, none⟩ : Addr).add t) = some u) := by
      intro t u hu
      have := (List.getElem?_eq_some_iff.1 hu).1
      omega
    subst hc1
    clear hW1 h1 h0 hnews hnl hxs h hlen hat hzv hzl hzs hnil hmx hcn
    subst hm0
    go_enter Try.func22, Try.ntmps22
    go_wp2_with fail
    go_region_law (refine step_append_room rfl (.tmp 22) (.tmp 25) 31 rfl 27 i0 4 Try.underlying31 hi0 hz1 g 0 0 1 (by simp [Act.eval, Act.put]) ⟨g, 0, none⟩ 0 (1 - 1) news (by simp [Act.eval, Act.put]) s1.out hsrc.out s2.out (by omega) s3.out ?_; rw [← HW.out])
    go_wp2
    go_ret
    exact ⟨rfl, HE.out⟩
  · have hsrc : Hid (∀ t u, news[t]? = some u → w.drew.cell? ((⟨g, 4, none⟩ : Addr).add t) = some u) := by
      intro t u hu
      have ht : t < m * 4 := by
        have := (List.getElem?_eq_some_iff.1 hu).1
        omega
      rw [Addr.add_lit, h0.cellAt (4 + t) (by omega)]
      exact hat t u hu
    clear hW1 h1 h0 hnews hnl hxs h hlen hat hzv hzl hzs
    go_enter Try.func22, Try.ntmps22
    go_wp2_with fail
    go_region_law (refine step_append_room rfl (.tmp 22) (.tmp 25) 31 rfl 27 i0 4 Try.underlying31 hi0 hz1 g 0 0 cap (by simp [Act.eval, Act.put]) ⟨g, 4, none⟩ m (cap - 1) news (by simp [Act.eval, Act.put]) s1.out hsrc.out s2.out (by omega) s3.out ?_; rw [← HW.out])
    go_wp2
    go_ret
    exact ⟨rfl, HE.out⟩
end Go.Proofs.Ytfldhjeeoaplfaa
