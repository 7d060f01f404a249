/-
  The document's own pool (package shunterref07): what each of its functions comes to, over a pool whose memory is its own. Conditions: none but that the pool is one.
-/
import Derived.Test.YtmfjalnlfcbdlaaPoolOps
import Derived.Deep.DeepCutAuto
namespace Go.Proofs.Ytmfjalnlfcbdlaa
open Go.ChangeShapes Go.WideShapes Go.ChangeAt Go.RowKit
set_option linter.unusedVariables false

/-- block q holds the document's pool: rows gl (what slots have), gf (which are full), ge (the empty ones); all its memory is in G -/
structure RefRaw (w : World) (G : Nat → Prop) (q gl gf ge n cap : Nat) (S : List (Option Pk)) (E : List Nat) : Prop where
  foot : ∀ k, G k → k < w.heap.size
  gq : G q
  ggl : G gl
  ggf : G gf
  gge : G ge
  lq : gl ≠ q
  fq : gf ≠ q
  eq : ge ≠ q
  fl : gf ≠ gl
  el : ge ≠ gl
  ef : ge ≠ gf
  c0 : w.cell? ⟨q, 0, none⟩ = some (.slice (some ⟨gl, 0, none⟩) n n)
  c1 : w.cell? ⟨q, 1, none⟩ = some (.slice (some ⟨gf, 0, none⟩) n n)
  c2 : w.cell? ⟨q, 2, none⟩ = some (.slice (some ⟨ge, 0, none⟩) E.length cap)
  f2 : w.frozen? ⟨q, 2, none⟩ = false
  full : w.ownsRow 0 3 1 (.slice (some ⟨gf, 0, none⟩) n n) n (S.map flag)
  what : ∃ xs, w.ownsRow 0 27 4 (.slice (some ⟨gl, 0, none⟩) n n) n xs
  stk : w.ownsRow 0 3 1 (.slice (some ⟨ge, 0, none⟩) E.length cap) E.length (ints E)
  pks : ∀ (k : Nat) (x : Pk), S[k]? = some (some x) → PkAt w gl (k * 4) x
  len : S.length = n
  n1 : 1 ≤ n
  n2 : n ≤ 200
  nc : n ≤ cap
section
variable {w w' : World} {G H : Nat → Prop} {q gl gf ge n cap : Nat} {S : List (Option Pk)} {E : List Nat}
theorem RefRaw.sans (h : RefRaw w G q gl gf ge n cap S E) (k : Sans H w w') (hd : ∀ k, G k → ¬ H k) : RefRaw w' G q gl gf ge n cap S E := by
  have hq := h.foot q h.gq
  have hn := hd q h.gq
  obtain ⟨xs, hx⟩ := h.what
  exact ⟨fun j hj => Nat.lt_of_lt_of_le (h.foot j hj) k.size, h.gq, h.ggl, h.ggf, h.gge, h.lq, h.fq, h.eq, h.fl, h.el, h.ef, (k.cell (p := ⟨q, 0, none⟩) hq hn).trans h.c0, (k.cell (p := ⟨q, 1, none⟩) hq hn).trans h.c1, (k.cell (p := ⟨q, 2, none⟩) hq hn).trans h.c2, (k.frozen (p := ⟨q, 2, none⟩) hq hn).trans h.f2,
    owns_at h.full k (hd _ h.ggf), ⟨xs, owns_at hx k (hd _ h.ggl)⟩, owns_at h.stk k (hd _ h.gge), fun j x hj => (h.pks j x hj).sans k (hd _ h.ggl), h.len, h.n1, h.n2, h.nc⟩
theorem RefRaw.below (h : RefRaw w G q gl gf ge n cap S E) (k : Below w.heap.size w w') : RefRaw w' G q gl gf ge n cap S E :=
  h.sans (H := fun _ => False) (Sans.of_below k) (fun _ _ e => e)
/-- the last of the empty ones is taken off -/
theorem RefRaw.pop {k : Nat} (h : RefRaw w G q gl gf ge n cap S (E ++ [k])) : RefRaw (w.setCell ⟨q, 2, none⟩ (.slice (some ⟨ge, 0, none⟩) E.length cap)) G q gl gf ge n cap S E := by
  have s : Sans (fun j => j = q) w (w.setCell ⟨q, 2, none⟩ (.slice (some ⟨ge, 0, none⟩) E.length cap)) := Sans.of_set w ⟨q, 2, none⟩ _ rfl
  obtain ⟨xs, hx⟩ := h.what
  refine ⟨fun j hj => Nat.lt_of_lt_of_le (h.foot j hj) s.size, h.gq, h.ggl, h.ggf, h.gge, h.lq, h.fq, h.eq, h.fl, h.el, h.ef, cell_set h.c0 (by omega), cell_set h.c1 (by omega), World.cell?_setCell_same _ _ _ h.c2, by rw [World.frozen?_setCell]; exact h.f2,
    owns_at h.full s h.fq, ⟨xs, owns_at hx s h.lq⟩, ?_, fun j x hj => (h.pks j x hj).sans s h.lq, h.len, h.n1, h.n2, h.nc⟩
  have h2 := owns_cut (owns_at h.stk s h.eq) (m := E.length) (by rw [List.length_append]; omega)
  rw [ints_take, List.take_left] at h2
  exact h2
theorem RefRaw.lay {k : Nat} (h : RefRaw w G q gl gf ge n cap S E) (hk : S[k]? = some none) (x : Pk) : RefRaw (lay4 w gl (k * 4) x) G q gl gf ge n cap S E ∧ PkAt (lay4 w gl (k * 4) x) gl (k * 4) x ∧ Sans (fun j => j = gl) w (lay4 w gl (k * 4) x) := by
  have s := lay4_sans w gl (k * 4) x
  have hq := h.foot q h.gq
  obtain ⟨xs, hx⟩ := h.what
  have hlt : k < n := by rw [← h.len]; exact (List.getElem?_eq_some_iff.1 hk).1
  refine ⟨⟨fun j hj => Nat.lt_of_lt_of_le (h.foot j hj) s.size, h.gq, h.ggl, h.ggf, h.gge, h.lq, h.fq, h.eq, h.fl, h.el, h.ef, (s.cell (p := ⟨q, 0, none⟩) hq h.lq.symm).trans h.c0, (s.cell (p := ⟨q, 1, none⟩) hq h.lq.symm).trans h.c1, (s.cell (p := ⟨q, 2, none⟩) hq h.lq.symm).trans h.c2, (s.frozen (p := ⟨q, 2, none⟩) hq h.lq.symm).trans h.f2,
    owns_at h.full s h.fl, lay4_own hx, owns_at h.stk s h.el, ?_, h.len, h.n1, h.n2, h.nc⟩, lay4_same hx (by omega), s⟩
  intro j y hj
  have hjk : j ≠ k := fun e => by rw [e, hk] at hj; cases hj
  exact lay4_other (h.pks j y hj) (by omega)
theorem RefRaw.mark {k : Nat} {v : Option Pk} (h : RefRaw w G q gl gf ge n cap S E) (hx : ∀ x, v = some x → PkAt w gl (k * 4) x) : RefRaw (w.setCell ⟨gf, k, none⟩ (flag v)) G q gl gf ge n cap (S.set k v) E ∧ Sans (fun j => j = gf) w (w.setCell ⟨gf, k, none⟩ (flag v)) := by
  have s : Sans (fun j => j = gf) w (w.setCell ⟨gf, k, none⟩ (flag v)) := Sans.of_set w ⟨gf, k, none⟩ _ rfl
  have hq := h.foot q h.gq
  obtain ⟨xs, hx2⟩ := h.what
  refine ⟨⟨fun j hj => Nat.lt_of_lt_of_le (h.foot j hj) s.size, h.gq, h.ggl, h.ggf, h.gge, h.lq, h.fq, h.eq, h.fl, h.el, h.ef, (s.cell (p := ⟨q, 0, none⟩) hq h.fq.symm).trans h.c0, (s.cell (p := ⟨q, 1, none⟩) hq h.fq.symm).trans h.c1, (s.cell (p := ⟨q, 2, none⟩) hq h.fq.symm).trans h.c2, (s.frozen (p := ⟨q, 2, none⟩) hq h.fq.symm).trans h.f2,
    ?_, ⟨xs, owns_at hx2 s h.fl.symm⟩, owns_at h.stk s h.ef, ?_, by rw [List.length_set]; exact h.len, h.n1, h.n2, h.nc⟩, s⟩
  · have := (h.full.stored k (flag v)).1
    rw [flags_set] at this
    exact this
  · intro j y hj
    by_cases hjk : j = k
    · subst hjk
      have hlt := (List.getElem?_eq_some_iff.1 hj).1
      rw [List.length_set] at hlt
      rw [List.getElem?_set_self hlt] at hj
      simp at hj
      exact (hx y hj).sans s h.fl.symm
    · rw [List.getElem?_set_ne (fun e => hjk e.symm)] at hj
      exact (h.pks j y hj).sans s h.fl.symm
theorem RefRaw.push {k : Nat} {u : World} {o : Obj} (h : RefRaw w G q gl gf ge n cap S E) (ho : u.ownsRow 0 3 1 (.slice (some ⟨ge, 0, none⟩) (E.length + 1) cap) (E.length + 1) (ints (E ++ [k]))) (hg : (w.alloc o).grownBy u (some ge)) :
    RefRaw (u.setCell ⟨q, 2, none⟩ (.slice (some ⟨ge, 0, none⟩) (E.length + 1 : Nat) cap)) G q gl gf ge n cap S (E ++ [k]) ∧ Sans (fun j => j = ge ∨ j = q) w (u.setCell ⟨q, 2, none⟩ (.slice (some ⟨ge, 0, none⟩) (E.length + 1 : Nat) cap)) := by
  have s1 : Sans (fun j => j = ge) w u := (Sans.alloc w o).then (Sans.of_grown hg (fun k e => by cases e; rfl))
  have s2 : Sans (fun j => j = q) u (u.setCell ⟨q, 2, none⟩ (.slice (some ⟨ge, 0, none⟩) (E.length + 1 : Nat) cap)) := Sans.of_set u ⟨q, 2, none⟩ _ rfl
  have hq := h.foot q h.gq
  have c : ∀ i, u.cell? ⟨q, i, none⟩ = w.cell? ⟨q, i, none⟩ := fun i => s1.cell (p := ⟨q, i, none⟩) hq h.eq.symm
  obtain ⟨xs, hx⟩ := h.what
  refine ⟨⟨fun j hj => Nat.lt_of_lt_of_le (h.foot j hj) (Nat.le_trans s1.size s2.size), h.gq, h.ggl, h.ggf, h.gge, h.lq, h.fq, h.eq, h.fl, h.el, h.ef, cell_set ((c 0).trans h.c0) (by omega), cell_set ((c 1).trans h.c1) (by omega), ?_, ?_,
    owns_at (owns_at h.full s1 h.ef.symm) s2 h.fq, ⟨xs, owns_at (owns_at hx s1 h.el.symm) s2 h.lq⟩, ?_, fun j x hj => ((h.pks j x hj).sans s1 h.el.symm).sans s2 h.lq, h.len, h.n1, h.n2, h.nc⟩, (s1.mono (fun j e => .inl e)).then (s2.mono (fun j e => .inr e))⟩
  · rw [List.length_append]
    exact World.cell?_setCell_same _ _ _ ((c 2).trans h.c2)
  · rw [World.frozen?_setCell]
    exact (s1.frozen (p := ⟨q, 2, none⟩) hq h.eq.symm).trans h.f2
  · rw [List.length_append]
    exact owns_at ho s2 h.eq
theorem RefRaw.cell (h : RefRaw w G q gl gf ge n cap S E) {k : Nat} {v : Option Pk} (hk : S[k]? = some v) : w.cell? ⟨gf, k, none⟩ = some (flag v) := by
  have hlt : k < n := by rw [← h.len]; exact (List.getElem?_eq_some_iff.1 hk).1
  rw [owns_cells h.full hlt, List.getElem?_map, hk]
  rfl
end
def RefAt (w : World) (G : Nat → Prop) (q n : Nat) (S : List (Option Pk)) (E : List Nat) : Prop := Inv n S E ∧ ∃ gl gf ge cap, RefRaw w G q gl gf ge n cap S E
theorem RefAt.sans {w w' : World} {G H : Nat → Prop} {q n : Nat} {S : List (Option Pk)} {E : List Nat} (h : RefAt w G q n S E) (k : Sans H w w') (hd : ∀ k, G k → ¬ H k) : RefAt w' G q n S E := by
  obtain ⟨hi, gl, gf, ge, cap, h⟩ := h
  exact ⟨hi, gl, gf, ge, cap, h.sans k hd⟩
theorem RefAt.foot {w : World} {G : Nat → Prop} {q n : Nat} {S : List (Option Pk)} {E : List Nat} (h : RefAt w G q n S E) : ∀ k, G k → k < w.heap.size := by
  obtain ⟨hi, gl, gf, ge, cap, h⟩ := h
  exact h.foot
theorem RefAt.below {w w' : World} {G : Nat → Prop} {q n : Nat} {S : List (Option Pk)} {E : List Nat} (h : RefAt w G q n S E) (k : Below w.heap.size w w') : RefAt w' G q n S E :=
  h.sans (H := fun _ => False) (Sans.of_below k) (fun _ _ e => e)
theorem rfree_any {w : World} {G : Nat → Prop} {q n : Nat} {S : List (Option Pk)} {E : List Nat} (h : RefAt w G q n S E) (m : Nat) (hm : E.length = m) :
    Calls Try.prog 19 #[.pointer (some ⟨q, 0, none⟩)] w fun e w' => e = .returned (.int .i64 m) ∧ w' = w := by
  obtain ⟨hi, gl, gf, ge, cap, h⟩ := h
  have hc2 := h.c2
  rw [hm] at hc2
  clear h hm
  go_enter Try.func19, Try.ntmps19
  go_wp2_with fail
  go_ret
  exact ⟨rfl, rfl⟩
set_option maxHeartbeats 400000 in
theorem rhas_yes {w : World} {G : Nat → Prop} {q n : Nat} {S : List (Option Pk)} {E : List Nat} (h : RefAt w G q n S E) {k : Nat} {x : Pk} (hk : S[k]? = some (some x)) :
    Calls Try.prog 24 #[.pointer (some ⟨q, 0, none⟩), .int .i64 k] w fun e w' => e = .returned (.bool true) ∧ w' = w := by
  obtain ⟨hi, gl, gf, ge, cap, h⟩ := h
  have hc0 := h.c0
  have hc1 := h.c1
  have hs := h.cell hk
  simp only [flag, Option.isSome_some, if_true] at hs
  have hn := h.n2
  have hlt : k < n := by rw [← h.len]; exact (List.getElem?_eq_some_iff.1 hk).1
  have h1 : (k : Int) < n := by omega
  clear h hk hi
  go_enter Try.func24, Try.ntmps24
  go_wp2_with fail
  go_ret
  exact ⟨rfl, rfl⟩
set_option maxHeartbeats 400000 in
theorem rhas_no {w : World} {G : Nat → Prop} {q n : Nat} {S : List (Option Pk)} {E : List Nat} (h : RefAt w G q n S E) {z : Int} (hz : -9223372036854775808 ≤ z ∧ z ≤ 9223372036854775807) (hk : look S z = none) :
    Calls Try.prog 24 #[.pointer (some ⟨q, 0, none⟩), .int .i64 z] w fun e w' => e = .returned (.bool false) ∧ w' = w := by
  obtain ⟨hi, gl, gf, ge, cap, h⟩ := h
  have hc0 := h.c0
  have hc1 := h.c1
  have hn := h.n2
  have hl := h.len
  rcases look_none hk with h0 | h0 | ⟨k, rfl, h0, h1⟩
  · have h1 : ¬ 0 ≤ z := by omega
    clear h hk hi
    go_enter Try.func24, Try.ntmps24
    go_wp2_with fail
    go_ret
    exact ⟨rfl, rfl⟩
  · have h1 : 0 ≤ z := by omega
    have h2 : ¬ z < n := by omega
    clear h hk hl h0 hi
    go_enter Try.func24, Try.ntmps24
    go_wp2_with fail
    go_ret
    exact ⟨rfl, rfl⟩
  · have hs := h.cell h1
    simp only [flag, Option.isSome_none, if_neg Bool.false_ne_true] at hs
    have h2 : (k : Int) < n := by omega
    clear h hk hl h0 h1 hi
    go_enter Try.func24, Try.ntmps24
    go_wp2_with fail
    go_ret
    exact ⟨rfl, rfl⟩
set_option maxHeartbeats 400000 in
theorem rget_no {w : World} {G : Nat → Prop} {q n : Nat} {S : List (Option Pk)} {E : List Nat} (h : RefAt w G q n S E) {z : Int} (hz : -9223372036854775808 ≤ z ∧ z ≤ 9223372036854775807) (hk : look S z = none) :
    Calls Try.prog 17 #[.pointer (some ⟨q, 0, none⟩), .int .i64 z] w fun e w' => e = .returned (.tuple #[.agg #[.int .i64 0, .int .i64 0, .int .i64 0, .int .u32 0], .bool false]) ∧ Below w.heap.size w w' := by
  have HR : Hid (RefAt w G q n S E ∧ look S z = none) := ⟨h, hk⟩
  clear h hk
  go_enter Try.func17, Try.ntmps17
  go_wp2_with fail
  refine (rhas_no (HR.out.1.below (fresh w _)) hz HR.out.2).mono ?_
  rintro e w1 ⟨rfl, rfl⟩
  go_wp2_with fail
  exact bodyPost_ret (v := .tuple #[.agg #[.int .i64 0, .int .i64 0, .int .i64 0, .int .u32 0], .bool false]) (by simp [results, Try.results17, go_sem]) rfl ⟨rfl, fresh _ _⟩
set_option maxHeartbeats 400000 in
theorem rget_yes {w : World} {G : Nat → Prop} {q n : Nat} {S : List (Option Pk)} {E : List Nat} (h : RefAt w G q n S E) {k : Nat} {x : Pk} (hk : S[k]? = some (some x)) :
    Calls Try.prog 17 #[.pointer (some ⟨q, 0, none⟩), .int .i64 k] w fun e w' => e = .returned (.tuple #[.agg #[.int .i64 x.s, .int .i64 x.d, .int .i64 x.l, .int .u32 x.b], .bool true]) ∧ Below w.heap.size w w' := by
  have HR : Hid (RefAt w G q n S E ∧ S[k]? = some (some x)) := ⟨h, hk⟩
  obtain ⟨hi, gl, gf, ge, cap, h⟩ := h
  have hq := h.foot q h.gq
  have hg := h.foot gl h.ggl
  have hlt : k < n := by rw [← h.len]; exact (List.getElem?_eq_some_iff.1 hk).1
  have hpk := h.pks k x hk
  have hc0 : ∀ o, (w.alloc o).cell? ⟨q, 0, none⟩ = some (.slice (some ⟨gl, 0, none⟩) n n) := fun o => ((fresh w o).cell (p := ⟨q, 0, none⟩) hq).trans h.c0
  have h0 : ∀ o, (w.alloc o).cell? ⟨gl, k * 4, none⟩ = some (.int .i64 x.s) := fun o => ((fresh w o).cell (p := ⟨gl, k * 4, none⟩) hg).trans hpk.1
  have h1 : ∀ o, (w.alloc o).cell? ⟨gl, k * 4 + 1, none⟩ = some (.int .i64 x.d) := fun o => ((fresh w o).cell (p := ⟨gl, k * 4 + 1, none⟩) hg).trans hpk.2.1
  have h2 : ∀ o, (w.alloc o).cell? ⟨gl, k * 4 + 2, none⟩ = some (.int .i64 x.l) := fun o => ((fresh w o).cell (p := ⟨gl, k * 4 + 2, none⟩) hg).trans hpk.2.2.1
  have h3 : ∀ o, (w.alloc o).cell? ⟨gl, k * 4 + 3, none⟩ = some (.int .u32 x.b) := fun o => ((fresh w o).cell (p := ⟨gl, k * 4 + 3, none⟩) hg).trans hpk.2.2.2
  have hlt2 : (k : Int) < n := by omega
  have hn := h.n2
  clear h hk hpk hi
  go_enter Try.func17, Try.ntmps17
  go_wp2_with fail
  refine (rhas_yes (HR.out.1.below (fresh w _)) HR.out.2).mono ?_
  rintro e w1 ⟨rfl, rfl⟩
  go_wp2_with fail
  exact bodyPost_ret (v := .tuple #[.agg #[.int .i64 x.s, .int .i64 x.d, .int .i64 x.l, .int .u32 x.b], .bool true]) (by simp [results, Try.results17, go_sem]) rfl ⟨rfl, fresh _ _⟩
set_option maxHeartbeats 400000 in
theorem rdrop_no {w : World} {G : Nat → Prop} {q n : Nat} {S : List (Option Pk)} {E : List Nat} (h : RefAt w G q n S E) {z : Int} (hz : -9223372036854775808 ≤ z ∧ z ≤ 9223372036854775807) (hk : look S z = none) :
    Calls Try.prog 16 #[.pointer (some ⟨q, 0, none⟩), .int .i64 z] w fun e w' => e = .returned (.bool false) ∧ w' = w := by
  have HR : Hid (RefAt w G q n S E ∧ look S z = none) := ⟨h, hk⟩
  clear h hk
  go_enter Try.func16, Try.ntmps16
  go_wp2_with fail
  refine (rhas_no HR.out.1 hz HR.out.2).mono ?_
  rintro e w1 ⟨rfl, rfl⟩
  go_wp2_with fail
  go_ret
  exact ⟨rfl, rfl⟩
set_option maxHeartbeats 1000000 in
theorem rdrop_yes {w : World} {G : Nat → Prop} {q n : Nat} {S : List (Option Pk)} {E : List Nat} (h : RefAt w G q n S E) {k : Nat} {x : Pk} (hk : S[k]? = some (some x)) :
    Calls Try.prog 16 #[.pointer (some ⟨q, 0, none⟩), .int .i64 k] w fun e w' => e = .returned (.bool true) ∧ RefAt w' G q n (S.set k none) (E ++ [k]) ∧ Sans G w w' := by
  have HR : Hid (RefAt w G q n S E ∧ S[k]? = some (some x)) := ⟨h, hk⟩
  obtain ⟨i0, hi0, hz0, hz1, hz2⟩ := info_parts infoI
  obtain ⟨hi, gl, gf, ge, cap, h⟩ := h
  have HI : Hid (RefRaw w G q gl gf ge n cap S E) := h
  have HV : Hid (Inv n S E) := hi
  have hc1 := h.c1
  have hn := h.n2
  have hlt : k < n := by rw [← h.len]; exact (List.getElem?_eq_some_iff.1 hk).1
  have hlt2 : (k : Int) < n := by omega
  have hs := h.cell hk
  simp only [flag, Option.isSome_some, if_true] at hs
  have hf := h.full.frozenAt k
  obtain ⟨m, hm⟩ : ∃ m, E.length = m := ⟨_, rfl⟩
  have HE : Hid (E.length = m) := hm
  have hmn : m < cap := by have := hi.room hk; have := h.nc; omega
  clear h hk hi hm
  go_enter Try.func16, Try.ntmps16
  go_wp2_with fail
  refine (rhas_yes HR.out.1 HR.out.2).mono ?_
  rintro e w1 ⟨rfl, hw1⟩
  subst hw1
  obtain ⟨hR1, s1⟩ := HI.out.mark (k := k) (v := none) (fun x e => by cases e)
  have HR1 : Hid (RefRaw (w1.setCell ⟨gf, k, none⟩ (.int .i64 0)) G q gl gf ge n cap (S.set k none) E ∧ Sans (fun j => j = gf) w1 (w1.setCell ⟨gf, k, none⟩ (.int .i64 0))) := ⟨hR1, s1⟩
  have hc2 : (w1.setCell ⟨gf, k, none⟩ (.int .i64 0)).cell? ⟨q, 2, none⟩ = some (.slice (some ⟨ge, 0, none⟩) m cap) := by have := HR1.out.1.c2; rw [HE.out] at this; exact this
  have hf2 : (w1.setCell ⟨gf, k, none⟩ (.int .i64 0)).frozen? ⟨q, 2, none⟩ = false := HR1.out.1.f2
  clear hR1 s1
  go_upto_region 4 with fail
  generalize w1.setCell ⟨gf, k, none⟩ (.int .i64 0) = w2 at HR1 hc2 hf2 ⊢
  have hq : q < w2.heap.size := cell_lt hc2
  have heq := HR1.out.1.eq
  have HO : Hid (w2.ownsRow 0 3 1 (.slice (some ⟨ge, 0, none⟩) m cap) m (ints E)) := by have := HR1.out.1.stk; rw [HE.out] at this; exact this
  clear hs hf hc1
  go_wp2_with (at_builtin; refine wpList_append_fits _ rfl _ _ 43 rfl 0 3 i0 1 Try.underlying43 hi0 hz1 ge m cap (ints E) rfl (HO.out.alloc _) _ 1 1 [.int .i64 k] rfl rfl (one_cell w2 k) (one_one k) (by omega) ?_; intro u hown hg; have hcu : u.cell? ⟨q, 2, none⟩ = some (.slice (some ⟨ge, 0, none⟩) m cap) := hg.cell (a := ⟨q, 2, none⟩) (((fresh w2 _).cell (p := ⟨q, 2, none⟩) hq).trans hc2) (fun e => by cases e; exact heq rfl); have hfu : u.frozen? ⟨q, 2, none⟩ = false := ((Sans.of_grown (F := fun k => k = ge) hg (fun k e => by cases e; rfl)).frozen (p := ⟨q, 2, none⟩) (by simp; omega) (fun e => heq e.symm)).trans (((fresh w2 _).frozen (p := ⟨q, 2, none⟩) hq).trans hf2))
  go_ret
  rw [show ints E ++ [Value.int .i64 (k : Nat)] = ints (E ++ [k]) from ints_append E [k]] at hown
  have hE := HE.out
  subst hE
  obtain ⟨hR3, s3⟩ := HR1.out.1.push hown hg
  have hI := HI.out
  exact ⟨rfl, ⟨HV.out.drop HR.out.2, gl, gf, ge, cap, hR3⟩, (HR1.out.2.mono (fun j e => by rw [e]; exact hI.ggf)).then (s3.mono (fun j e => e.elim (fun e => by rw [e]; exact hI.gge) (fun e => by rw [e]; exact hI.gq)))⟩
end Go.Proofs.Ytmfjalnlfcbdlaa
