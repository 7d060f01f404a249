/-
  Contracts and plain facts that the walks lean on (RingA, RingB, RingC). Conditions: none but those that each states.
-/
import Derived.Test.YtniicgbkeifnjaaGreatDoorQ2
import Derived.Maps.OwnSet
import Derived.WideKeyEntry
import Derived.DeepKeys4
namespace Go.Proofs.YtniicgbkeifnjaaGreatDoor.K
open Go.ChangeShapes Go.WideShapes Go.ChangeAt Go.RowKit
set_option linter.unusedVariables false
set_option maxRecDepth 100000
abbrev Pl := Int × Int × Int
def I64 (z : Int) : Prop := -9223372036854775808 ≤ z ∧ z ≤ 9223372036854775807
def Wf (q : Pl) : Prop := I64 q.1 ∧ I64 q.2.1 ∧ I64 q.2.2
def key (q : Pl) : Value := .agg #[.int .i64 q.1, .int .i64 q.2.1, .int .i64 q.2.2]
def klit (q : Pl) : Lit := .string (keyBytes [.int .i64 q.1, .int .i64 q.2.1, .int .i64 q.2.2])
theorem laid : laidOutB Tryz.prog = true := by kernel_rfl
theorem rowPl : 175 < Tryz.prog.types.size := of_decide_eq_true (by kernel_rfl)
theorem widePl : (match Tryz.prog.underlying 175 with | some (.array _ _) | some (.struct _) => true | _ => false) = true := by kernel_rfl
theorem lawPl : WideMaps.KeyLaw Tryz.prog 175 := deep_law_laid laid (m := 2) (by omega) rowPl (by kernel_rfl) widePl
theorem keyedPl : Maps.Keyed Tryz.prog 175 := Maps.Keyed.of_law lawPl
theorem ktPl : Tryz.prog.keyType 175 = true := by kernel_rfl
theorem szPl : ∃ n, Tryz.prog.types.size + 1 = n + 2 := ⟨Tryz.prog.types.size - 1, by kernel_rfl⟩
theorem cellsPl : Tryz.prog.cellsOf 175 = 3 := by kernel_rfl
theorem cellsI1 : Tryz.prog.cellsOf 3 = 1 := by kernel_rfl
theorem wf64 {z : Int} (h : I64 z) : (Lit.int .i64 z).wf = true := by
  obtain ⟨h1, h2⟩ := h
  exact WalkArith.wf_i64 (by omega)
theorem keyLits_pl {q : Pl} (h : Wf q) (n : Nat) : Tryz.prog.keyLits (n + 2) 175 [.int .i64 q.1, .int .i64 q.2.1, .int .i64 q.2.2] = some [.int .i64 q.1, .int .i64 q.2.1, .int .i64 q.2.2] := by
  obtain ⟨h1, h2, h3⟩ := h
  simp [Program.keyLits, Tryz.underlying175, Tryz.underlying3, cellsPl, cellsI1, wf64 h1, wf64 h2, wf64 h3]
theorem keyOf_pl {q : Pl} (h : Wf q) : keyOf Tryz.prog 175 (key q) = some (klit q) := by
  unfold keyOf
  rw [Tryz.underlying175]
  have hf : (key q).formed Tryz.prog 175 = true := by simp [key, Value.formed, Tryz.underlying175, cellsPl]
  have hc : (key q).cells.toList = [.int .i64 q.1, .int .i64 q.2.1, .int .i64 q.2.2] := by simp [key, Value.cells]
  obtain ⟨n, hn⟩ := szPl
  rw [hn, hc, keyLits_pl h n, ktPl, hf]
  rfl
theorem key_inj {q q' : Pl} (h : key q = key q') : q = q' := by
  obtain ⟨a, b, c⟩ := q
  obtain ⟨a', b', c'⟩ := q'
  simp [key] at h
  simp [h]
theorem klit_inj {q q' : Pl} (h : Wf q) (h' : Wf q') (e : klit q = klit q') : q = q' := by
  have h1 := keyOf_pl h
  rw [e] at h1
  exact key_inj (keyedPl.inj h1 (keyOf_pl h'))
def nilS : Value := .slice none 0 0
theorem zeroQ (w : World) : (zeroValue 27).run Tryz.prog w = .ok nilS w := by kernel_rfl
def RV (v : Value) : Option (DataW Value × List MemPlace) := some (.held v, [])
def QMap (w : World) (mb c : Nat) (V : Pl → Value) : Prop := ∃ D : DataW Value, w.ownsMap Tryz.prog 175 RV mb c D ∧ ∀ q, Wf q → D.atKey (klit q) (.held nilS) = .held (V q)
def upd {α : Type} (f : Pl → α) (q : Pl) (v : α) : Pl → α := fun p => if p = q then v else f p
theorem upd_same {α : Type} (f : Pl → α) (q : Pl) (v : α) : upd f q v q = v := if_pos rfl
theorem upd_other {α : Type} (f : Pl → α) {q p : Pl} (v : α) (h : p ≠ q) : upd f q v p = f p := if_neg h
theorem QMap.lt {w : World} {mb c : Nat} {V : Pl → Value} (h : QMap w mb c V) : mb < w.heap.size := by
  obtain ⟨D, h1, _⟩ := h
  exact h1.lt
theorem QMap.mono {w : World} {mb c c' : Nat} {V : Pl → Value} (h : QMap w mb c V) (hc : c ≤ c') : QMap w mb c' V := by
  obtain ⟨D, h1, h2⟩ := h
  exact ⟨D, h1.mono hc, h2⟩
theorem QMap.block {w w' : World} {mb c : Nat} {V : Pl → Value} (h : QMap w mb c V) (e : w'.heap[mb]? = w.heap[mb]?) : QMap w' mb c V := by
  obtain ⟨D, ⟨es, clock, hb, r⟩, h2⟩ := h
  exact ⟨D, ⟨es, clock, e.trans hb, r⟩, h2⟩
theorem QMap.sans {F : Nat → Prop} {w w' : World} {mb c : Nat} {V : Pl → Value} (h : QMap w mb c V) (k : Sans F w w') (hn : ¬ F mb) : QMap w' mb c V := h.block (k.block mb h.lt hn)
theorem QMap.new (w : World) : QMap (w.alloc (.map #[] 0)) w.heap.size 0 (fun _ => nilS) :=
  ⟨.map [], World.ownsMap_made _ _ _ _, fun q _ => rfl⟩
theorem QMap.look {w : World} {mb c : Nat} {V : Pl → Value} (h : QMap w mb c V) {q : Pl} (hq : Wf q) : (Instr.lookup 176 (.map (some mb)) (key q) false).run Tryz.prog w = .ok (V q) w := by
  obtain ⟨D, h1, h2⟩ := h
  obtain ⟨v, ps, hrun, hv⟩ := h1.lookup keyedPl Tryz.underlying176 (zeroQ w) (zd := .held nilS) (zp := []) rfl (keyOf_pl hq)
  rw [h2 q hq] at hv
  simp [RV] at hv
  rw [hrun, hv.1]
theorem isKey {q : Pl} (hq : Wf q) : WideAt.IsKeyLit (klit q) := keyedPl.key (keyOf_pl hq)
theorem put_at {D : DataW Value} {V : Pl → Value} (hD : Maps.IsMap D) {q : Pl} (hq : Wf q) (v : Value) (h : ∀ q, Wf q → D.atKey (klit q) (.held nilS) = .held (V q)) : ∀ p, Wf p → (D.put (klit q) (.held v)).atKey (klit p) (.held nilS) = .held (upd V q v p) := by
  intro p hp
  by_cases e : p = q
  · subst e
    rw [upd_same, Maps.atKey_put_same hD (isKey hq)]
  · rw [upd_other _ _ e, Maps.atKey_put_other (fun e2 => e (klit_inj hp hq e2))]
    exact h p hp
theorem QMap.store {w : World} {mb c : Nat} {V : Pl → Value} (h : QMap w mb c V) {q : Pl} (hq : Wf q) (v : Value) (hc : c < maxLen) :
    ∃ w', (Instr.mapUpdate 176 (.map (some mb)) (key q) v).run Tryz.prog w = .ok () w' ∧ QMap w' mb (c + 1) (upd V q v) ∧ Sans (fun k => k = mb) w w' := by
  obtain ⟨D, h1, h2⟩ := h
  obtain ⟨w', hrun, r1, r2⟩ := h1.update (val := v) (d := .held v) (ps := []) keyedPl Tryz.underlying176 hc (keyOf_pl hq) rfl
  exact ⟨w', hrun, ⟨_, r1, put_at h1.isMap hq v h2⟩, Sans.of_grown r2 (fun k e => by cases e; rfl)⟩
theorem QMap.strike {w : World} {mb c : Nat} {V : Pl → Value} (h : QMap w mb c V) {q : Pl} (hq : Wf q) (ty : TypeId) :
    ∃ w', (Builtin.delete_ #[176, 175] ty #[.map (some mb), key q]).run Tryz.prog w = .ok (.tuple #[]) w' ∧ QMap w' mb c (upd V q nilS) ∧ Sans (fun k => k = mb) w w' := by
  obtain ⟨D, h1, h2⟩ := h
  obtain ⟨w', hrun, r1, r2⟩ := h1.drop keyedPl Tryz.underlying176 (keyOf_pl hq) ty
  refine ⟨w', hrun, ⟨_, r1, fun p hp => ?_⟩, Sans.of_grown r2.grown (fun k e => by cases e; rfl)⟩
  by_cases e : p = q
  · subst e
    rw [upd_same, Maps.atKey_del_same]
  · rw [upd_other _ _ e, Maps.atKey_del_other (fun e2 => e (klit_inj hp hq e2))]
    exact h2 p hp
theorem QMap.entry {w : World} {mb c : Nat} {V : Pl → Value} (h : QMap w mb c V) {q : Pl} (hq : Wf q) (hc : c < maxLen) :
    ∃ (st : Nat) (u : World), (Instr.mapEntry 176 (.map (some mb)) (key q)).run Tryz.prog w = .ok (.tuple #[V q, .int .i64 st]) u ∧ Sans (fun k => k = mb) w u ∧
      ∀ (u2 : World) (v : Value), u2.heap[mb]? = u.heap[mb]? → ∃ u3, (Instr.entryStore 176 (.map (some mb)) (.int .i64 st) v).run Tryz.prog u2 = .ok () u3 ∧ QMap u3 mb (c + 1) (upd V q v) ∧ Sans (fun k => k = mb) u2 u3 := by
  have hl := h.look hq
  have hup := fun v => h.store hq v hc
  obtain ⟨D, ⟨es, clock, hb, F, hs, rfl⟩, h2⟩ := h
  obtain ⟨v0, st, es1, clock1, hrun, hwho, hback⟩ := WideElems.entry_then_store lawPl Tryz.underlying176 zeroQ hb F (keyOf_pl hq)
  have hblt : mb < w.heap.size := (Array.getElem?_eq_some_iff.1 hb).1
  have hv0 : v0 = V q := by
    rcases Maps.fit_look false keyedPl Tryz.underlying176 (zeroQ w) hb F (keyOf_pl hq) with ⟨hr, hno, _⟩ | ⟨e0, y, hm0, h3, hr, _, _, _⟩
    · rw [hl] at hr
      injection hr with e1 _
      rcases hwho with ⟨e0, hm0, h3, _⟩ | ⟨_, rfl⟩
      · exact absurd h3 (hno e0 hm0)
      · exact e1.symm
    · rw [hl] at hr
      injection hr with e1 _
      rcases hwho with ⟨e1', hm1, h4, rfl⟩ | ⟨hno, _⟩
      · have hap := ((MapKept.stamped_iff es clock).1 F.stamped).2.2
        obtain ⟨i, hi, e1i⟩ := List.getElem_of_mem hm0
        obtain ⟨j, hj, e1j⟩ := List.getElem_of_mem hm1
        have hij : i = j := by
          rcases Nat.lt_trichotomy i j with h | h | h
          · exact absurd (by rw [e1i, e1j, h3, h4]) (List.pairwise_iff_getElem.1 hap i j hi hj h)
          · exact h
          · exact absurd (by rw [e1i, e1j, h3, h4]) (List.pairwise_iff_getElem.1 hap j i hj hi h)
        subst hij
        rw [← e1j, e1i]
        exact e1.symm
      · exact absurd h3 (hno e0 hm0)
  subst hv0
  have same : ∀ (u : World) (o : Obj), u.heap[mb]? ≠ none → (ChangeMaps.setBlock u mb o).heap[mb]? = some o := by
    intro u o hu
    have hlt : mb < u.heap.size := by
      rcases Nat.lt_or_ge mb u.heap.size with h' | h'
      · exact h'
      · exact absurd (Array.getElem?_eq_none h') hu
    simp [ChangeMaps.setBlock, hlt]
  have other : ∀ (u : World) (o : Obj), Sans (fun k => k = mb) u (ChangeMaps.setBlock u mb o) := by
    intro u o
    refine ⟨rfl, rfl, rfl, by simp [ChangeMaps.setBlock], fun k hk hn => ?_⟩
    have : mb ≠ k := fun e => hn e.symm
    simp [ChangeMaps.setBlock, this]
  refine ⟨st, _, hrun, other _ _, ?_⟩
  intro u2 v hu2
  rw [same w _ (by rw [hb]; simp)] at hu2
  obtain ⟨es', clock', r1, r2⟩ := hback u2 v hu2
  obtain ⟨w', hrun', q1, q2⟩ := hup v
  rw [r2] at hrun'
  injection hrun' with _ e2
  subst e2
  refine ⟨_, r1, q1.block ?_, other _ _⟩
  rw [same u2 _ (by rw [hu2]; simp), same w _ (by rw [hb]; simp)]
end Go.Proofs.YtniicgbkeifnjaaGreatDoor.K
namespace Go.Proofs.YtniicgbkeifnjaaGreatDoor.K
open Go.ChangeShapes Go.WideShapes Go.ChangeAt Go.RowKit
set_option linter.unusedVariables false
set_option maxRecDepth 100000
def vblk (v : Value) (g : Nat) : Prop := ∃ off n c, v = .slice (some ⟨g, off, none⟩) n c
theorem vblk_nil {g : Nat} : ¬ vblk nilS g := by rintro ⟨_, _, _, e⟩; cases e
theorem vblk_some {g g' off n c : Nat} (h : vblk (.slice (some ⟨g, off, none⟩) n c) g') : g' = g := by
  obtain ⟨_, _, _, e⟩ := h
  cases e
  rfl
def QRow (w : World) (v : Value) (E : List Nat) : Prop :=
  (v = nilS ∧ E = []) ∨ ∃ g off cap, v = .slice (some ⟨g, off, none⟩) E.length cap ∧ g < w.heap.size ∧ E.length ≤ cap ∧ cap ≤ maxLen ∧ (∀ (j k : Nat), E[j]? = some k → w.cell? ⟨g, off + j, none⟩ = some (.int .i64 (k : Nat))) ∧
    ∀ j, j < cap → (w.cell? ⟨g, off + j, none⟩).isSome = true ∧ w.frozen? ⟨g, off + j, none⟩ = false
theorem QRow.nil (w : World) : QRow w nilS [] := .inl ⟨rfl, rfl⟩
theorem QRow.lt {w : World} {v : Value} {E : List Nat} (h : QRow w v E) {g : Nat} (hg : vblk v g) : g < w.heap.size := by
  rcases h with ⟨rfl, _⟩ | ⟨g', off, cap, rfl, hlt, _⟩
  · exact absurd hg vblk_nil
  · rw [vblk_some hg]; exact hlt
theorem QRow.sans {F : Nat → Prop} {w w' : World} {v : Value} {E : List Nat} (h : QRow w v E) (k : Sans F w w') (hn : ∀ g, vblk v g → ¬ F g) : QRow w' v E := by
  rcases h with h | ⟨g, off, cap, rfl, hlt, h1, h2, h3, h4⟩
  · exact .inl h
  · have hg := hn g ⟨_, _, _, rfl⟩
    have ec : ∀ j, w'.cell? ⟨g, off + j, none⟩ = w.cell? ⟨g, off + j, none⟩ := fun j => k.cell (p := ⟨g, off + j, none⟩) hlt hg
    have ef : ∀ j, w'.frozen? ⟨g, off + j, none⟩ = w.frozen? ⟨g, off + j, none⟩ := fun j => k.frozen (p := ⟨g, off + j, none⟩) hlt hg
    exact .inr ⟨g, off, cap, rfl, Nat.lt_of_lt_of_le hlt k.size, h1, h2, fun j x hx => (ec j).trans (h3 j x hx), fun j hj => ⟨by rw [ec]; exact (h4 j hj).1, by rw [ef]; exact (h4 j hj).2⟩⟩
theorem QRow.below {w w' : World} {v : Value} {E : List Nat} (h : QRow w v E) (k : Below w.heap.size w w') : QRow w' v E := h.sans (F := fun _ => False) (Sans.of_below k) (fun _ _ e => e)
theorem QRow.of_owns {w : World} {base : Nat} {v : Value} {n : Nat} {E : List Nat} (h : w.ownsRow base 3 1 v n (ints E)) : QRow w v E := by
  have hl := h.1
  rw [ints_length] at hl
  rcases h.2 with ⟨rfl, h0⟩ | ⟨g, cap, cur, rfl, _, hg, hn, hc, hs, ht⟩
  · exact .inl ⟨rfl, List.length_eq_zero_iff.1 (by omega)⟩
  · have hnl : n = E.length := by omega
    subst hnl
    refine .inr ⟨g, 0, cap, rfl, ?_, hn, hc, fun j k hk => ?_, fun j hj => ⟨?_, ?_⟩⟩
    · rcases Nat.lt_or_ge g w.heap.size with h' | h'
      · exact h'
      · simp [Array.getElem?_eq_none h'] at hg
    · rw [Nat.zero_add, owns_cells h (List.getElem?_eq_some_iff.1 hk).1]
      exact ints_at hk
    · rw [Nat.zero_add]
      simp [World.cell?, hg]
      omega
    · exact h.frozenAt _
theorem vblk_own {v : Value} {g : Nat} (h : vblk v g) : v.ownBlock = some g := by
  obtain ⟨off, n, c, rfl⟩ := h
  rfl
theorem qcells {w : World} {g off n : Nat} {E : List Nat} (h3 : ∀ (j k : Nat), E[j]? = some k → w.cell? ⟨g, off + j, none⟩ = some (.int .i64 (k : Nat))) : ∀ j u, (ints E)[j]? = some u → w.cell? ((⟨g, off, none⟩ : Addr).add j) = some u := by
  intro j u hj
  unfold ints at hj
  rw [List.getElem?_map] at hj
  cases hk : E[j]? with
  | none => rw [hk] at hj; cases hj
  | some k =>
    rw [hk] at hj
    simp at hj
    subst hj
    rw [Addr.add_lit]
    exact h3 j k hk
theorem QRow.append (ty : TypeId) {w : World} {v : Value} {E : List Nat} (h : QRow w v E) (k : Nat) (ad : Addr) (c : Nat) (hk : ∀ (j : Nat) (u : Value), [Value.int .i64 k][j]? = some u → w.cell? (ad.add j) = some u) (hE : E.length ≤ 1000000) :
    ∃ v' w', (Builtin.append_ #[27, 27] ty #[v, .slice (some ad) 1 c]).run Tryz.prog w = .ok v' w' ∧ QRow w' v' (E ++ [k]) ∧ Sans (vblk v) w w' ∧ ∀ g, vblk v' g → vblk v g ∨ w.heap.size ≤ g := by
  obtain ⟨i0, hi, hz0, hz1, hz2⟩ := info_parts infoI
  rcases h with ⟨rfl, rfl⟩ | ⟨g, off, cap, rfl, hlt, h1, h2, h3, h4⟩
  · obtain ⟨v', w', hrun, hown, hg, _, hat⟩ := run_append_own_at (P := Tryz.prog) w 0 27 ty 3 i0 (.int .i64 0) 1 8 Tryz.underlying27 hi hz0 hz1 hz2 rfl (by decide) nilS 0 [] (World.ownsRow_nil w 0 _ 1) ad 1 c [.int .i64 k] rfl hk (one_one k) (by unfold maxLen; omega) (by omega) (Nat.zero_le _)
    refine ⟨v', w', hrun, QRow.of_owns (E := [k]) hown, Sans.of_grown hg (fun k e => by simp [nilS, Value.ownBlock] at e), fun g hv => ?_⟩
    have e := vblk_own hv
    rcases hat with h | h
    · rw [e] at h; simp [nilS, Value.ownBlock] at h
    · rw [e] at h; cases h; exact .inr (Nat.le_refl _)
  · by_cases hr : E.length + 1 ≤ cap
    · have hrun := run_append_room_cells (P := Tryz.prog) w 27 ty 3 i0 Tryz.underlying27 hi g off E.length cap ad 1 c [.int .i64 k] (by rw [hz1]; rfl) hk (one_one k) hr
        (fun j hj => by simp at hj; subst hj; rw [hz1, Nat.mul_one]; exact (h4 E.length (by omega)).1) (fun j hj => by simp at hj; subst hj; rw [hz1, Nat.mul_one]; exact (h4 E.length (by omega)).2)
      rw [hz1, Nat.mul_one] at hrun
      have e1 : w.setCells g (off + E.length) [.int .i64 (k : Nat)] = w.setCell ⟨g, off + E.length, none⟩ (.int .i64 (k : Nat)) := rfl
      rw [e1] at hrun
      have SS : Sans (vblk (.slice (some ⟨g, off, none⟩) E.length cap)) w (w.setCell ⟨g, off + E.length, none⟩ (.int .i64 (k : Nat))) := Sans.of_set w ⟨g, off + E.length, none⟩ _ ⟨_, _, _, rfl⟩
      obtain ⟨x, hx⟩ : ∃ x, w.cell? ⟨g, off + E.length, none⟩ = some x := Option.isSome_iff_exists.1 (h4 E.length (by omega)).1
      refine ⟨_, _, hrun, .inr ⟨g, off, cap, by rw [List.length_append]; rfl, Nat.lt_of_lt_of_le hlt SS.size, by rw [List.length_append]; exact hr, h2, fun j y hj => ?_, fun j hj => ⟨?_, ?_⟩⟩, SS, fun g' hv => .inl (by rw [vblk_some hv]; exact ⟨_, _, _, rfl⟩)⟩
      · by_cases e : j = E.length
        · subst e
          rw [List.getElem?_append_right (Nat.le_refl _)] at hj
          simp at hj
          subst hj
          exact World.cell?_setCell_same _ _ _ hx
        · have hjl : j < E.length := by
            have := (List.getElem?_eq_some_iff.1 hj).1
            rw [List.length_append] at this
            simp at this
            omega
          rw [List.getElem?_append_left hjl] at hj
          exact cell_set (h3 j y hj) (by omega)
      · by_cases e : j = E.length
        · subst e
          rw [World.cell?_setCell_same _ _ _ hx]; rfl
        · obtain ⟨y, hy⟩ := Option.isSome_iff_exists.1 (h4 j hj).1
          rw [cell_set hy (by omega)]; rfl
      · rw [World.frozen?_setCell]
        exact (h4 j hj).2
    · obtain ⟨v', w', hrun, hown, hg⟩ := run_append_arg_grows (P := Tryz.prog) w 27 ty 3 i0 (.int .i64 0) 1 8 Tryz.underlying27 hi hz0 hz1 hz2 rfl (by decide) ⟨g, off, none⟩ E.length cap (ints E) (by rw [ints_length]; omega) (qcells (n := 0) h3) ad 1 c [.int .i64 k] rfl hk (by omega) (by unfold maxLen; omega) (by omega)
      rw [show ints E ++ [Value.int .i64 (k : Nat)] = ints (E ++ [k]) from ints_append E [k]] at hown
      refine ⟨v', w', hrun, QRow.of_owns hown, Sans.of_grown hg (fun k e => by cases e), fun g hv => .inr (hown.lt g (vblk_own hv)).1⟩
theorem QRow.tail {w : World} {g off cap : Nat} {x : Nat} {E : List Nat} (h : QRow w (.slice (some ⟨g, off, none⟩) (E.length + 1) cap) (x :: E)) : QRow w (.slice (some ⟨g, off + 1, none⟩) E.length (cap - 1)) E := by
  rcases h with ⟨e, _⟩ | ⟨g', off', cap', e, hlt, h1, h2, h3, h4⟩
  · cases e
  · simp only [Value.slice.injEq, Option.some.injEq, Addr.mk.injEq, and_true] at e
    obtain ⟨⟨rfl, rfl⟩, _, rfl⟩ := e
    simp only [List.length_cons] at h1
    refine .inr ⟨g, off + 1, cap - 1, rfl, hlt, by omega, by omega, fun j k hk => ?_, fun j hj => ?_⟩
    · rw [show off + 1 + j = off + (j + 1) by omega]
      exact h3 (j + 1) k (by simpa using hk)
    · rw [show off + 1 + j = off + (j + 1) by omega]
      exact h4 (j + 1) (by omega)
theorem step_push {w : World} {ops : Array Oper} {o : Oper} {a : Act} {K : Act → World → Prop} {Q : Exit → Act → World → Prop} {X : Prop} (hgd : o.guard = none) (s x : Operand)
    (ho : o.op = .call { callee := .builtin .append, args := #[s, x], argTypes := #[27, 27] })
    (v : Value) (E : List Nat) (hs : a.eval s = v) (hr : QRow w v E) (k : Nat) (ad : Addr) (c : Nat) (hx : a.eval x = .slice (some ad) 1 c) (hk : ∀ (j : Nat) (u : Value), [Value.int .i64 k][j]? = some u → w.cell? (ad.add j) = some u) (hE : E.length ≤ 1000000)
    (h : ∀ v' w', QRow w' v' (E ++ [k]) → Sans (vblk v) w w' → (∀ g, vblk v' g → vblk v g ∨ w.heap.size ≤ g) → K (a.put o.dst v') w') : if Region.wanted o (yielded ops a.tmps) = true then Oper.wp Tryz.prog o a w K Q else X := by
  have hw : Region.wanted o (yielded ops a.tmps) = true := by simp [Region.wanted, hgd]
  rw [if_pos hw]
  obtain ⟨v', w', hrun, h1, h2, h3⟩ := hr.append o.type k ad c hk hE
  unfold Oper.wp
  simp [execOp, ho, resolve, invoke, builtin, hs, hx, hrun, Result.andThen]
  exact h v' w' h1 h2 h3
end Go.Proofs.YtniicgbkeifnjaaGreatDoor.K
namespace Go.Proofs.YtniicgbkeifnjaaGreatDoor.K
open Go.ChangeShapes Go.WideShapes Go.ChangeAt Go.RowKit
set_option linter.unusedVariables false
set_option maxRecDepth 100000
def Held (S : List (Option Pk)) (sl : List Nat) (xs : List Pk) : Prop := sl.length = xs.length ∧ ∀ (j k : Nat), sl[j]? = some k → ∃ x, xs[j]? = some x ∧ S[k]? = some (some x)
structure RIn (w : World) (F G : Nat → Prop) (p pp mb P L n : Nat) (S : List (Option Pk)) (E : List Nat) (c : Nat) (V : Pl → Value) (sl : Pl → List Nat) (Qs : Pl → List Pk) : Prop where
  foot : ∀ k, F k → k < w.heap.size
  fp : F p
  fm : F mb
  fG : ∀ k, G k → F k
  pm : p ≠ mb
  pG : ¬ G p
  mG : ¬ G mb
  c0 : w.cell? ⟨p, 0, none⟩ = some (.int .i64 P)
  c1 : w.cell? ⟨p, 1, none⟩ = some (.int .i64 P)
  c2 : w.cell? ⟨p, 2, none⟩ = some (.int .i64 L)
  c3 : w.cell? ⟨p, 3, none⟩ = some (.pointer (some ⟨pp, 0, none⟩))
  c4 : w.cell? ⟨p, 4, none⟩ = some (.map (some mb))
  pool : PoolAt w G pp n S E
  map : QMap w mb c V
  row : ∀ q, QRow w (V q) (sl q)
  blk : ∀ q g, vblk (V q) g → F g ∧ g ≠ p ∧ g ≠ mb ∧ ¬ G g
  one : ∀ q q' g, vblk (V q) g → vblk (V q') g → q = q'
  len : ∀ q, (sl q).length ≤ c
  held : ∀ q, Held S (sl q) (Qs q)
  once : ∀ q q' (j j' k : Nat), (sl q)[j]? = some k → (sl q')[j']? = some k → q = q' ∧ j = j'
theorem RIn.sans {w w' : World} {F G H : Nat → Prop} {p pp mb P L n c : Nat} {S : List (Option Pk)} {E : List Nat} {V : Pl → Value} {sl : Pl → List Nat} {Qs : Pl → List Pk} (h : RIn w F G p pp mb P L n S E c V sl Qs) (k : Sans H w w') (hd : ∀ k, F k → ¬ H k) : RIn w' F G p pp mb P L n S E c V sl Qs := by
  have hp := h.foot p h.fp
  have hn := hd p h.fp
  exact ⟨fun j hj => Nat.lt_of_lt_of_le (h.foot j hj) k.size, h.fp, h.fm, h.fG, h.pm, h.pG, h.mG, (k.cell (p := ⟨p, 0, none⟩) hp hn).trans h.c0, (k.cell (p := ⟨p, 1, none⟩) hp hn).trans h.c1, (k.cell (p := ⟨p, 2, none⟩) hp hn).trans h.c2, (k.cell (p := ⟨p, 3, none⟩) hp hn).trans h.c3, (k.cell (p := ⟨p, 4, none⟩) hp hn).trans h.c4,
    h.pool.sans k (fun j hj => hd j (h.fG j hj)), h.map.sans k (hd _ h.fm), fun q => (h.row q).sans k (fun g hg => hd g (h.blk q g hg).1), h.blk, h.one, h.len, h.held, h.once⟩
theorem RIn.below {w w' : World} {F G : Nat → Prop} {p pp mb P L n c : Nat} {S : List (Option Pk)} {E : List Nat} {V : Pl → Value} {sl : Pl → List Nat} {Qs : Pl → List Pk} (h : RIn w F G p pp mb P L n S E c V sl Qs) (k : Below w.heap.size w w') : RIn w' F G p pp mb P L n S E c V sl Qs :=
  h.sans (H := fun _ => False) (Sans.of_below k) (fun _ _ e => e)
section
variable {w : World} {F G : Nat → Prop} {p pp mb P L n c : Nat} {S : List (Option Pk)} {E : List Nat} {V : Pl → Value} {sl : Pl → List Nat} {Qs : Pl → List Pk}
theorem Held.first {sl : List Nat} {xs : List Pk} {x : Pk} {r : List Pk} (h : Held S sl xs) (hx : xs = x :: r) : ∃ k sr, sl = k :: sr ∧ S[k]? = some (some x) := by
  subst hx
  cases sl with
  | nil => have := h.1; simp at this
  | cons k sr =>
    obtain ⟨y, hy, hS⟩ := h.2 0 k rfl
    simp at hy
    subst hy
    exact ⟨k, sr, rfl, hS⟩
theorem Held.empty {sl : List Nat} (h : Held S sl []) : sl = [] := List.length_eq_zero_iff.1 h.1
theorem RIn.nilV (h : RIn w F G p pp mb P L n S E c V sl Qs) {q : Pl} (hq : Qs q = []) : ∃ a cap, V q = .slice a 0 cap := by
  have hs : sl q = [] := (hq ▸ h.held q : Held S (sl q) []).empty
  rcases h.row q with ⟨e, _⟩ | ⟨g, off, cap, e, _⟩
  · exact ⟨none, 0, e⟩
  · rw [hs] at e
    exact ⟨_, cap, e⟩
theorem RIn.consV (h : RIn w F G p pp mb P L n S E c V sl Qs) {q : Pl} {k : Nat} {sr : List Nat} (hq : sl q = k :: sr) : ∃ g off cap, V q = .slice (some ⟨g, off, none⟩) (sr.length + 1) cap ∧ w.cell? ⟨g, off, none⟩ = some (.int .i64 (k : Nat)) ∧ sr.length + 1 ≤ cap ∧ cap ≤ maxLen ∧ g < w.heap.size := by
  have hr := h.row q
  rw [hq] at hr
  rcases hr with ⟨_, e⟩ | ⟨g, off, cap, e, hlt, h1, h2, h3, _⟩
  · cases e
  · exact ⟨g, off, cap, e, h3 0 k rfl, h1, h2, hlt⟩
set_option maxHeartbeats 1000000 in
set_option maxRecDepth 100000 in
theorem shead_no (h : RIn w F G p pp mb P L n S E c V sl Qs) (i o l : Int) (hq : Wf (i, o, l)) (hx : Qs (i, o, l) = []) :
    Calls Tryz.prog 216 #[.pointer (some ⟨p, 3, none⟩), .agg #[.int .i64 i, .int .i64 o, .int .i64 l]] w fun e w' => e = .returned (.tuple #[.agg #[.int .i64 0, .int .i64 0, .int .i64 0, .int .u32 0], .bool false]) ∧ Below w.heap.size w w' := by
  obtain ⟨a, cap, hV⟩ := h.nilV hx
  obtain ⟨W, hW⟩ : ∃ W, W = (w.alloc (.cells #[.int .i64 i, .int .i64 o, .int .i64 l] 175)).alloc (.cells #[.int .i64 0, .int .i64 0, .int .i64 0, .int .u32 0] 25) := ⟨_, rfl⟩
  have bel : Below w.heap.size w W := by rw [hW]; exact later (fresh _ _) (fresh _ _)
  have h2 := h.below bel
  have hc4 := h2.c4
  have hb0 : W.cell? ⟨w.heap.size, 0, none⟩ = some (.int .i64 i) := by rw [hW]; simp
  have hb1 : W.cell? ⟨w.heap.size, 1, none⟩ = some (.int .i64 o) := by rw [hW]; simp
  have hb2 : W.cell? ⟨w.heap.size, 2, none⟩ = some (.int .i64 l) := by rw [hW]; simp
  have hl : (Instr.lookup 176 (.map (some mb)) (.agg #[.int .i64 i, .int .i64 o, .int .i64 l]) false).run Tryz.prog W.drew = .ok (.slice a 0 cap) W.drew := by
    have := (h2.below (drewN_below W 1)).map.look hq
    rw [hV] at this
    exact this
  have h4 : Four W (w.heap.size + 1) := by
    have := Four.new (w.alloc (.cells #[.int .i64 i, .int .i64 o, .int .i64 l] 175)) (.int .i64 0) (.int .i64 0) (.int .i64 0) (.int .u32 0) 25
    rw [← hW] at this
    simpa using this
  obtain ⟨⟨v0, r0⟩, ⟨v1, r1⟩, ⟨v2, r2⟩, ⟨v3, r3⟩, f0, f1, f2, f3⟩ := h4
  have HB : Hid (Below w.heap.size w W) := bel
  clear h h2 hx bel
  go_enter Tryz.func216, Tryz.ntmps216
  go_wp2_with fail
  rw [← hW]
  clear hW
  go_region_held3 (fun w' => w'.cell? ⟨p, 4, none⟩ = some (.map (some mb)) ∧ w'.cell? ⟨w.heap.size, 0, none⟩ = some (.int .i64 i) ∧ w'.cell? ⟨w.heap.size, 1, none⟩ = some (.int .i64 o) ∧ w'.cell? ⟨w.heap.size, 2, none⟩ = some (.int .i64 l) ∧ (Instr.lookup 176 (.map (some mb)) (.agg #[.int .i64 i, .int .i64 o, .int .i64 l]) false).run Tryz.prog w' = .ok (.slice a 0 cap) w') (go_keep) (fail)
  go_wp2_with fail
  exact bodyPost_ret (v := .tuple #[.agg #[.int .i64 0, .int .i64 0, .int .i64 0, .int .u32 0], .bool false]) (by simp [results, Tryz.results216, go_sem, r0, r1, r2, r3]) rfl ⟨rfl, lay4_below (x := ⟨0, 0, 0, 0⟩) (o := 0) (later HB.out (drewN_below _ 1)) (Nat.le_succ _)⟩
set_option maxHeartbeats 1000000 in
set_option maxRecDepth 100000 in
theorem shead_yes (h : RIn w F G p pp mb P L n S E c V sl Qs) (i o l : Int) (hq : Wf (i, o, l)) (x : Pk) (r : List Pk) (hx : Qs (i, o, l) = x :: r) :
    Calls Tryz.prog 216 #[.pointer (some ⟨p, 3, none⟩), .agg #[.int .i64 i, .int .i64 o, .int .i64 l]] w fun e w' => e = .returned (.tuple #[.agg #[.int .i64 x.s, .int .i64 x.d, .int .i64 x.l, .int .u32 x.b], .bool true]) ∧ Below w.heap.size w w' := by
  obtain ⟨k, sr, hsl, hSk⟩ := (h.held (i, o, l)).first hx
  obtain ⟨g, off, cap, hV, hcg, hcap, hcm, hgl⟩ := h.consV hsl
  obtain ⟨m, hm⟩ : ∃ m, sr.length = m := ⟨_, rfl⟩
  rw [hm] at hV hcap
  obtain ⟨W, hW⟩ : ∃ W, W = (w.alloc (.cells #[.int .i64 i, .int .i64 o, .int .i64 l] 175)).alloc (.cells #[.int .i64 0, .int .i64 0, .int .i64 0, .int .u32 0] 25) := ⟨_, rfl⟩
  have bel : Below w.heap.size w W := by rw [hW]; exact later (fresh _ _) (fresh _ _)
  have h2 := h.below bel
  have hc4 := h2.c4
  have hc3 := h2.c3
  have hb0 : W.cell? ⟨w.heap.size, 0, none⟩ = some (.int .i64 i) := by rw [hW]; simp
  have hb1 : W.cell? ⟨w.heap.size, 1, none⟩ = some (.int .i64 o) := by rw [hW]; simp
  have hb2 : W.cell? ⟨w.heap.size, 2, none⟩ = some (.int .i64 l) := by rw [hW]; simp
  have hcgW : W.cell? ⟨g, off, none⟩ = some (.int .i64 (k : Nat)) := (bel.cell (p := ⟨g, off, none⟩) hgl).trans hcg
  have hl : (Instr.lookup 176 (.map (some mb)) (.agg #[.int .i64 i, .int .i64 o, .int .i64 l]) false).run Tryz.prog W.drew = .ok (.slice (some ⟨g, off, none⟩) (m + 1) cap) W.drew := by
    have := (h2.below (drewN_below W 1)).map.look hq
    rw [hV] at this
    exact this
  have h4 : Four W (w.heap.size + 1) := by
    have := Four.new (w.alloc (.cells #[.int .i64 i, .int .i64 o, .int .i64 l] 175)) (.int .i64 0) (.int .i64 0) (.int .i64 0) (.int .u32 0) 25
    rw [← hW] at this
    simpa using this
  have H4 : Hid (Four W (w.heap.size + 1)) := h4
  have HB : Hid (Below w.heap.size w W) := bel
  have HP : Hid (PoolAt W G pp n S E ∧ S[k]? = some (some x)) := ⟨h2.pool, hSk⟩
  have hpl : p < W.heap.size := h2.foot p h2.fp
  have hgl2 : g < W.heap.size := Nat.lt_of_lt_of_le hgl bel.size
  have hp1 : ¬ p = w.heap.size + 1 := by have := h.foot p h.fp; omega
  have hg1 : ¬ g = w.heap.size + 1 := by omega
  have hm0 : 0 < m + 1 := by omega
  have hne : ¬ (m : Int) + 1 = 0 := by omega
  unfold maxLen at hcm
  have hmx : m ≤ 9223372036854775806 := by omega
  clear h h2 hx bel hsl hSk hcg hm h4
  go_enter Tryz.func216, Tryz.ntmps216
  go_wp2_with fail
  rw [← hW]
  clear hW
  go_region_held3 (fun w' => w'.cell? ⟨p, 4, none⟩ = some (.map (some mb)) ∧ w'.cell? ⟨w.heap.size, 0, none⟩ = some (.int .i64 i) ∧ w'.cell? ⟨w.heap.size, 1, none⟩ = some (.int .i64 o) ∧ w'.cell? ⟨w.heap.size, 2, none⟩ = some (.int .i64 l) ∧ (Instr.lookup 176 (.map (some mb)) (.agg #[.int .i64 i, .int .i64 o, .int .i64 l]) false).run Tryz.prog w' = .ok (.slice (some ⟨g, off, none⟩) (m + 1) cap) w') (go_keep) (fail)
  go_wp2_with fail
  clear hl
  go_region_held3 (fun w' => w'.cell? ⟨p, 3, none⟩ = some (.pointer (some ⟨pp, 0, none⟩)) ∧ w'.cell? ⟨g, off, none⟩ = some (.int .i64 (k : Nat))) (first | exact ⟨((lay4_sans u (w.heap.size + 1) 0 x).cell (p := ⟨p, 3, none⟩) (cell_lt k3) hp1).trans k3, ((lay4_sans u (w.heap.size + 1) 0 x).cell (p := ⟨g, off, none⟩) (cell_lt kg) hg1).trans kg⟩ | go_keep)
    (first | (go_at_call 120; refine (get_yes (HP.out.1.below (drewN_below _ 2)) HP.out.2).mono ?_; rintro e u ⟨rfl, hb⟩; have k3 : u.cell? ⟨p, 3, none⟩ = some (.pointer (some ⟨pp, 0, none⟩)) := (hb.cell (p := ⟨p, 3, none⟩) hpl).trans hc3; have kg : u.cell? ⟨g, off, none⟩ = some (.int .i64 (k : Nat)) := (hb.cell (p := ⟨g, off, none⟩) hgl2).trans hcgW; have HU : Hid (Below w.heap.size w u) := later (later HB.out (drewN_below _ 2)) hb; obtain ⟨⟨v0, r0⟩, ⟨v1, r1⟩, ⟨v2, r2⟩, ⟨v3, r3⟩, f0, f1, f2, f3⟩ := (H4.out.below (drewN_below W 2)).below hb))
  go_wp2_with fail
  exact bodyPost_ret (v := .tuple #[.agg #[.int .i64 x.s, .int .i64 x.d, .int .i64 x.l, .int .u32 x.b], .bool true]) (by simp [results, Tryz.results216, go_sem, r0, r1, r2, r3]) rfl ⟨rfl, lay4_below (x := x) (o := 0) HU.out (Nat.le_succ _)⟩
end
end Go.Proofs.YtniicgbkeifnjaaGreatDoor.K
