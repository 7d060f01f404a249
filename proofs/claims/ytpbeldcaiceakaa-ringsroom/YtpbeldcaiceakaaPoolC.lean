/-
  Package pool, as it landed: Get, Drop, Put, Free, over a pool whose memory is its own. Conditions: none but that the pool is one.
-/
import Derived.Test.YtpbeldcaiceakaaPoolB
namespace Go.Proofs.Ytpbeldcaiceakaa
open Go.ChangeShapes Go.WideShapes Go.ChangeAt Go.RowKit
set_option linter.unusedVariables false

set_option maxHeartbeats 400000 in
theorem get_no {w : World} {F : Nat → Prop} {p n : Nat} {S : List (Option Pk)} {E : List Nat} (h : PoolAt w F p n S E) {z : Int} (hz : -9223372036854775808 ≤ z ∧ z ≤ 9223372036854775807) (hk : look S z = none) :
    Calls Try.prog 29 #[.pointer (some ⟨p, 0, none⟩), .int .i64 z] w fun e w' => e = .returned (.tuple #[.agg #[.int .i64 0, .int .i64 0, .int .i64 0, .int .u32 0], .bool false]) ∧ Below w.heap.size w w' := by
  have HR : Hid (PoolAt w F p n S E ∧ look S z = none) := ⟨h, hk⟩
  clear h hk
  go_enter Try.func29, Try.ntmps29
  go_wp2_with fail
  refine (has_no (HR.out.1.below (fresh w _)) hz HR.out.2).mono ?_
  rintro e w1 ⟨rfl, rfl⟩
  go_wp2_with fail
  exact bodyPost_ret (v := .tuple #[.agg #[.int .i64 0, .int .i64 0, .int .i64 0, .int .u32 0], .bool false]) (by simp [results, Try.results29, go_sem]) rfl ⟨rfl, fresh _ _⟩
set_option maxHeartbeats 400000 in
theorem get_yes {w : World} {F : Nat → Prop} {p n : Nat} {S : List (Option Pk)} {E : List Nat} (h : PoolAt w F p n S E) {k : Nat} {x : Pk} (hk : S[k]? = some (some x)) :
    Calls Try.prog 29 #[.pointer (some ⟨p, 0, none⟩), .int .i64 k] w fun e w' => e = .returned (.tuple #[.agg #[.int .i64 x.s, .int .i64 x.d, .int .i64 x.l, .int .u32 x.b], .bool true]) ∧ Below w.heap.size w w' := by
  have HR : Hid (PoolAt w F p n S E ∧ S[k]? = some (some x)) := ⟨h, hk⟩
  obtain ⟨gs, ge, bs, h⟩ := h
  have hp := h.foot p h.fp
  have hg := h.foot gs h.fg
  obtain ⟨hlt, b, hb, hFb, _, _, _, hpk⟩ := h.full hk
  have hbl := h.foot b hFb
  have hc0 : ∀ o, (w.alloc o).cell? ⟨p, 0, none⟩ = some (.slice (some ⟨gs, 0, none⟩) n n) := fun o => ((fresh w o).cell (p := ⟨p, 0, none⟩) hp).trans h.c0
  have hs : ∀ o, (w.alloc o).cell? ⟨gs, k, none⟩ = some (.pointer (some ⟨b, 0, none⟩)) := fun o => ((fresh w o).cell (p := ⟨gs, k, none⟩) hg).trans (h.slot hb)
  have h0 : ∀ o, (w.alloc o).cell? ⟨b, 0, none⟩ = some (.int .i64 x.s) := fun o => ((fresh w o).cell (p := ⟨b, 0, none⟩) hbl).trans hpk.1
  have h1 : ∀ o, (w.alloc o).cell? ⟨b, 1, none⟩ = some (.int .i64 x.d) := fun o => ((fresh w o).cell (p := ⟨b, 1, none⟩) hbl).trans hpk.2.1
  have h2 : ∀ o, (w.alloc o).cell? ⟨b, 2, none⟩ = some (.int .i64 x.l) := fun o => ((fresh w o).cell (p := ⟨b, 2, none⟩) hbl).trans hpk.2.2.1
  have h3 : ∀ o, (w.alloc o).cell? ⟨b, 3, none⟩ = some (.int .u32 x.b) := fun o => ((fresh w o).cell (p := ⟨b, 3, none⟩) hbl).trans hpk.2.2.2
  have hlt2 : (k : Int) < n := by omega
  have hn := h.n2
  clear h hk hpk
  go_enter Try.func29, Try.ntmps29
  go_wp2_with fail
  refine (has_yes (HR.out.1.below (fresh w _)) HR.out.2).mono ?_
  rintro e w1 ⟨rfl, rfl⟩
  go_wp2_with fail
  exact bodyPost_ret (v := .tuple #[.agg #[.int .i64 x.s, .int .i64 x.d, .int .i64 x.l, .int .u32 x.b], .bool true]) (by simp [results, Try.results29, go_sem]) rfl ⟨rfl, fresh _ _⟩
theorem ptr_set (bs : List (Option Nat)) (k : Nat) (v : Option Nat) : (bs.map ptr).set k (ptr v) = (bs.set k v).map ptr := (List.map_set ..).symm
set_option maxHeartbeats 400000 in
theorem drop_no {w : World} {F : Nat → Prop} {p n : Nat} {S : List (Option Pk)} {E : List Nat} (h : PoolAt w F p n S E) {z : Int} (hz : -9223372036854775808 ≤ z ∧ z ≤ 9223372036854775807) (hk : look S z = none) :
    Calls Try.prog 32 #[.pointer (some ⟨p, 0, none⟩), .int .i64 z] w fun e w' => e = .returned (.bool false) ∧ w' = w := by
  have HR : Hid (PoolAt w F p n S E ∧ look S z = none) := ⟨h, hk⟩
  clear h hk
  go_enter Try.func32, Try.ntmps32
  go_wp2_with fail
  refine (has_no HR.out.1 hz HR.out.2).mono ?_
  rintro e w1 ⟨rfl, rfl⟩
  go_wp2_with fail
  go_ret
  exact ⟨rfl, rfl⟩
set_option maxHeartbeats 400000 in
theorem drop_yes {w : World} {F : Nat → Prop} {p n : Nat} {S : List (Option Pk)} {E : List Nat} (h : PoolAt w F p n S E) {k : Nat} {x : Pk} (hk : S[k]? = some (some x)) :
    Calls Try.prog 32 #[.pointer (some ⟨p, 0, none⟩), .int .i64 k] w fun e w' => e = .returned (.bool true) ∧ PoolAt w' F p n (S.set k none) (E ++ [k]) ∧ Sans F w w' := by
  have HR : Hid (PoolAt w F p n S E ∧ S[k]? = some (some x)) := ⟨h, hk⟩
  obtain ⟨gs, ge, bs, h⟩ := h
  have HI : Hid (PoolIn w F p gs ge n S E bs) := h
  have hc0 := h.c0
  have hn := h.n2
  obtain ⟨hlt, b, hb, hFb, _, _, _, hpk⟩ := h.full hk
  have hs : w.cell? ⟨gs, k, none⟩ = some (.pointer (some ⟨b, 0, none⟩)) := h.slot hb
  have hf : w.frozen? ⟨gs, k, none⟩ = false := h.row.frozenAt k
  have hlt2 : (k : Int) < n := by omega
  have hgp := h.gp
  clear h hk hpk hb
  go_enter Try.func32, Try.ntmps32
  go_wp2_with fail
  refine (has_yes HR.out.1 HR.out.2).mono ?_
  rintro e w1 ⟨rfl, rfl⟩
  go_wp2_with fail
  have S1 : Sans (fun j => j = gs) w1 (w1.setCell ⟨gs, k, none⟩ (.pointer none)) := Sans.of_set w1 ⟨gs, k, none⟩ _ rfl
  have hpl := HI.out.foot p HI.out.fp
  refine (push_any p n ge k E.length E _ ((S1.cell (p := ⟨p, 1, none⟩) hpl (fun e => hgp e.symm)).trans HI.out.c1) ((S1.frozen (p := ⟨p, 1, none⟩) hpl (fun e => hgp e.symm)).trans HI.out.f1) (owns_at HI.out.stk S1 HI.out.eg) (HI.out.inv.room HR.out.2) HI.out.ep).mono ?_
  rintro e w2 ⟨rfl, ho, S2, q1, q0, qf⟩
  go_wp2_with fail
  go_ret
  have h := HI.out
  have SS : Sans F w1 w2 := (S1.mono (fun j e => by rw [e]; exact h.fg)).then (S2.mono (fun j e => e.elim (fun e => by rw [e]; exact h.fp) (fun e => by rw [e]; exact h.fe)))
  have hrow : w2.ownsRow 0 77 1 (.slice (some ⟨gs, 0, none⟩) n n) n ((bs.set k none).map ptr) := by
    have := (h.row.stored k (.pointer none)).1
    rw [show (Value.pointer none) = ptr none from rfl, ptr_set] at this
    exact owns_at this S2 (fun e => e.elim (fun e => h.gp e) (fun e => h.eg e.symm))
  refine ⟨rfl, ⟨gs, ge, bs.set k none, ⟨fun j hj => Nat.lt_of_lt_of_le (h.foot j hj) SS.size, h.fp, h.fg, h.fe, h.gp, h.ep, h.eg, ?_, ?_, ?_, hrow, ?_, ?_, ?_, h.inv.drop HR.out.2, h.n1, h.n2⟩⟩, SS⟩
  · exact q0.trans ((S1.cell (p := ⟨p, 0, none⟩) hpl (fun e => hgp e.symm)).trans h.c0)
  · rw [List.length_append]; exact q1
  · exact qf.trans ((S1.frozen (p := ⟨p, 1, none⟩) hpl (fun e => hgp e.symm)).trans h.f1)
  · rw [List.length_append]; exact ho
  · intro j c hj
    by_cases hjk : j = k
    · subst hjk
      rw [List.getElem?_set_self (by rw [h.blen]; exact hlt)] at hj
      simp at hj
    · rw [List.getElem?_set_ne (fun e => hjk e.symm)] at hj
      obtain ⟨h1, h2, h3, h4, y, h5, h6⟩ := h.pk j c hj
      refine ⟨h1, h2, h3, h4, y, ?_, (h6.sans S1 h3).sans S2 (fun e => e.elim h2 h4)⟩
      rw [List.getElem?_set_ne (fun e => hjk e.symm)]; exact h5
  · intro j hj
    by_cases hjk : j = k
    · subst hjk
      rw [List.getElem?_set_self (by rw [h.inv.len]; exact hlt)]
    · rw [List.getElem?_set_ne (fun e => hjk e.symm)] at hj ⊢
      exact h.no j hj
set_option maxHeartbeats 400000 in
theorem put_none {w : World} {F : Nat → Prop} {p n : Nat} {S : List (Option Pk)} (h : PoolAt w F p n S []) (a b c d : Int) :
    Calls Try.prog 31 #[.pointer (some ⟨p, 0, none⟩), .agg #[.int .i64 a, .int .i64 b, .int .i64 c, .int .u32 d]] w fun e w' => e = .returned (.tuple #[.int .i64 0, .bool false]) ∧ Below w.heap.size w w' := by
  obtain ⟨gs, ge, bs, h⟩ := h
  have hp := h.foot p h.fp
  have hc1 : ∀ o, (w.alloc o).cell? ⟨p, 1, none⟩ = some (.slice (some ⟨ge, 0, none⟩) 0 n) := fun o => ((fresh w o).cell (p := ⟨p, 1, none⟩) hp).trans h.c1
  have HC : Hid (∀ o, (w.alloc o).cell? ⟨p, 1, none⟩ = some (.slice (some ⟨ge, 0, none⟩) 0 n)) := hc1
  clear h hc1
  go_enter Try.func31, Try.ntmps31
  go_wp2_with fail
  refine (pop_none p n ge _ (HC.out _)).mono ?_
  rintro e w1 ⟨rfl, rfl⟩
  go_wp2_with fail
  go_ret2
  exact ⟨rfl, fresh _ _⟩
set_option maxHeartbeats 400000 in
theorem put_some {w : World} {F : Nat → Prop} {p n k : Nat} {S : List (Option Pk)} {E : List Nat} (h : PoolAt w F p n S (E ++ [k])) (a b c d : Int) :
    Calls Try.prog 31 #[.pointer (some ⟨p, 0, none⟩), .agg #[.int .i64 a, .int .i64 b, .int .i64 c, .int .u32 d]] w fun e w' => e = .returned (.tuple #[.int .i64 k, .bool true]) ∧ ∃ F', PoolAt w' F' p n (S.set k (some ⟨a, b, c, d⟩)) E ∧ Grows F w F' w' := by
  obtain ⟨gs, ge, bs, h⟩ := h
  have HI : Hid (PoolIn w F p gs ge n S (E ++ [k]) bs) := h
  have hp := h.foot p h.fp
  have hg := h.foot gs h.fg
  have he := h.foot ge h.fe
  have hk0 := (h.inv.mem k).1 (by simp)
  obtain ⟨hlt, hbk⟩ := h.empty hk0
  obtain ⟨W, hW⟩ : ∃ W, W = w.alloc (.cells #[.int .i64 a, .int .i64 b, .int .i64 c, .int .u32 d] 27) := ⟨_, rfl⟩
  have bel : Below w.heap.size w W := by rw [hW]; exact fresh _ _
  have hm : E.length < n := by have := h.inv.le; rw [List.length_append] at this; simp at this; omega
  obtain ⟨m, hml⟩ : ∃ m, E.length = m := ⟨_, rfl⟩
  have hc1 : W.cell? ⟨p, 1, none⟩ = some (.slice (some ⟨ge, 0, none⟩) (m + 1) n) := by
    have := (bel.cell (p := ⟨p, 1, none⟩) hp).trans h.c1
    rw [List.length_append, hml] at this
    exact this
  have hf1 : W.frozen? ⟨p, 1, none⟩ = false := (bel.frozen (p := ⟨p, 1, none⟩) hp).trans h.f1
  have hkc : W.cell? ⟨ge, m, none⟩ = some (.int .i64 (k : Nat)) := by
    refine (bel.cell (p := ⟨ge, m, none⟩) he).trans ?_
    rw [owns_cells h.stk (by rw [List.length_append, hml]; simp)]
    exact ints_at (by rw [← hml]; simp)
  have hc0 : W.cell? ⟨p, 0, none⟩ = some (.slice (some ⟨gs, 0, none⟩) n n) := (bel.cell (p := ⟨p, 0, none⟩) hp).trans h.c0
  have hck : W.cell? ⟨gs, k, none⟩ = some (.pointer none) := (bel.cell (p := ⟨gs, k, none⟩) hg).trans (h.slot hbk)
  have hfk : W.frozen? ⟨gs, k, none⟩ = false := (bel.frozen (p := ⟨gs, k, none⟩) hg).trans (h.row.frozenAt k)
  have hn := h.n2
  have hgp := h.gp
  have hlt2 : (k : Int) < n := by omega
  rw [hml] at hm
  clear h hk0
  go_enter Try.func31, Try.ntmps31
  go_wp2_with fail
  rw [← hW]
  refine (pop_some p n ge k m W hc1 hf1 hkc hm hn).mono ?_
  rintro e w1 ⟨rfl, hw1⟩
  have S1 : Sans (fun j => j = p) W w1 := by rw [hw1]; exact Sans.of_set W ⟨p, 1, none⟩ _ rfl
  have q0 : w1.cell? ⟨p, 0, none⟩ = some (.slice (some ⟨gs, 0, none⟩) n n) := by
    rw [hw1, World.cell?_setCell_other]
    · exact hc0
    · simp
  have q1 : w1.cell? ⟨p, 1, none⟩ = some (.slice (some ⟨ge, 0, none⟩) m n) := by rw [hw1]; exact World.cell?_setCell_same _ _ _ hc1
  have qf : w1.frozen? ⟨p, 1, none⟩ = false := by rw [hw1, World.frozen?_setCell]; exact hf1
  have hgW : gs < W.heap.size := Nat.lt_of_lt_of_le hg bel.size
  have qk : w1.cell? ⟨gs, k, none⟩ = some (.pointer none) := (S1.cell (p := ⟨gs, k, none⟩) hgW hgp).trans hck
  have qfk : w1.frozen? ⟨gs, k, none⟩ = false := (S1.frozen (p := ⟨gs, k, none⟩) hgW hgp).trans hfk
  have HS : Hid (Sans (fun j => j = p) W w1) := S1
  have HB : Hid (Below w.heap.size w W) := bel
  have HW : Hid (W = w.alloc (.cells #[.int .i64 a, .int .i64 b, .int .i64 c, .int .u32 d] 27)) := hW
  clear hw1 S1 bel hW hc1 hf1 hkc hc0 hck hfk
  go_wp2_with fail
  go_ret2
  have h := HI.out
  have bel := HB.out
  have S1 := HS.out
  have S2 : Sans (fun j => j = gs) w1 (w1.setCell ⟨gs, k, none⟩ (.pointer (some ⟨w.heap.size, 0, none⟩))) := Sans.of_set w1 ⟨gs, k, none⟩ _ rfl
  have S12 : Sans (fun j => j = p ∨ j = gs) w (w1.setCell ⟨gs, k, none⟩ (.pointer (some ⟨w.heap.size, 0, none⟩))) := ((Sans.of_below bel).then (S1.mono (fun j e => .inl e))).then (S2.mono (fun j e => .inr e))
  have SS : Sans F w (w1.setCell ⟨gs, k, none⟩ (.pointer (some ⟨w.heap.size, 0, none⟩))) := S12.mono (fun j e => e.elim (fun e => by rw [e]; exact h.fp) (fun e => by rw [e]; exact h.fg))
  have hWs : W.heap.size = w.heap.size + 1 := by rw [HW.out]; simp
  have hsz : w.heap.size + 1 ≤ (w1.setCell ⟨gs, k, none⟩ (.pointer (some ⟨w.heap.size, 0, none⟩))).heap.size := by have := S1.size; have := S2.size; omega
  have hPk : PkAt (w1.setCell ⟨gs, k, none⟩ (.pointer (some ⟨w.heap.size, 0, none⟩))) w.heap.size 0 ⟨a, b, c, d⟩ := by
    have h0 : PkAt W w.heap.size 0 ⟨a, b, c, d⟩ := by rw [HW.out]; exact ⟨by simp, by simp, by simp, by simp⟩
    exact (h0.sans S1 (by omega)).sans S2 (by omega)
  refine ⟨rfl, fun j => F j ∨ j = w.heap.size, ⟨gs, ge, bs.set k (some w.heap.size), ⟨?_, .inl h.fp, .inl h.fg, .inl h.fe, h.gp, h.ep, h.eg, ?_, ?_, ?_, ?_, ?_, ?_, ?_, h.inv.put _, h.n1, h.n2⟩⟩, SS, ?_⟩
  · rintro j (hj | hj)
    · exact Nat.lt_of_lt_of_le (h.foot j hj) SS.size
    · omega
  · rw [World.cell?_setCell_other]
    · exact q0
    · simp
  · rw [World.cell?_setCell_other, hml]
    · exact q1
    · simp
  · rw [World.frozen?_setCell]; exact qf
  · have hr : w1.ownsRow 0 77 1 (.slice (some ⟨gs, 0, none⟩) n n) n (bs.map ptr) := owns_at (owns_below h.row bel) S1 hgp
    have := (hr.stored k (.pointer (some ⟨w.heap.size, 0, none⟩))).1
    rw [show (Value.pointer (some ⟨w.heap.size, 0, none⟩)) = ptr (some w.heap.size) from rfl, ptr_set] at this
    exact this
  · have h1 := owns_at (owns_at (owns_below h.stk bel) S1 h.ep) S2 h.eg
    have h2 := owns_cut h1 (m := E.length) (by rw [List.length_append]; omega)
    rw [ints_take, List.take_left] at h2
    exact h2
  · intro j t hj
    by_cases hjk : j = k
    · subst hjk
      rw [List.getElem?_set_self (by rw [h.blen]; exact hlt)] at hj
      simp at hj
      subst hj
      exact ⟨.inr rfl, by omega, by omega, by omega, _, List.getElem?_set_self (by rw [h.inv.len]; exact hlt), hPk⟩
    · rw [List.getElem?_set_ne (fun e => hjk e.symm)] at hj
      obtain ⟨h1, h2, h3, h4, y, h5, h6⟩ := h.pk j t hj
      refine ⟨.inl h1, h2, h3, h4, y, ?_, h6.sans S12 (fun e => e.elim h2 h3)⟩
      rw [List.getElem?_set_ne (fun e => hjk e.symm)]; exact h5
  · intro j hj
    by_cases hjk : j = k
    · subst hjk
      rw [List.getElem?_set_self (by rw [h.blen]; exact hlt)] at hj
      simp at hj
    · rw [List.getElem?_set_ne (fun e => hjk e.symm)] at hj ⊢
      exact h.no j hj
  · rintro j (hj | hj)
    · exact .inl hj
    · exact .inr (by omega)
end Go.Proofs.Ytpbeldcaiceakaa
