/-
  Maps of package rings: keyed by places (three numbers), what stands at each place, behind a store, a delete, an append to what stands there. Conditions: none but sizes.
-/
import Derived.Test.YtpbeldcaiceakaaPoolC
import Derived.Maps.OwnSet
import Derived.WideKeyEntry
import Derived.DeepKeys4
import Derived.ArgAppend
namespace Go.Proofs.Ytpbeldcaiceakaa
open Go.ChangeShapes Go.WideShapes Go.ChangeAt Go.RowKit
set_option linter.unusedVariables false

/-- a queue's place: in, out, lane -/
abbrev Pl := Int × Int × Int
def I64 (z : Int) : Prop := -9223372036854775808 ≤ z ∧ z ≤ 9223372036854775807
def Wf (q : Pl) : Prop := I64 q.1 ∧ I64 q.2.1 ∧ I64 q.2.2
def key (q : Pl) : Value := .agg #[.int .i64 q.1, .int .i64 q.2.1, .int .i64 q.2.2]
def klit (q : Pl) : Lit := .string (keyBytes [.int .i64 q.1, .int .i64 q.2.1, .int .i64 q.2.2])
theorem laid : laidOutB Try.prog = true := by kernel_rfl
theorem rowPl : 51 < Try.prog.types.size := of_decide_eq_true (by kernel_rfl)
theorem widePl : (match Try.prog.underlying 51 with | some (.array _ _) | some (.struct _) => true | _ => false) = true := by kernel_rfl
theorem lawPl : WideMaps.KeyLaw Try.prog 51 := deep_law_laid laid (m := 2) (by omega) rowPl (by kernel_rfl) widePl
theorem keyedPl : Maps.Keyed Try.prog 51 := Maps.Keyed.of_law lawPl
theorem ktPl : Try.prog.keyType 51 = true := by kernel_rfl
theorem szPl : ∃ n, Try.prog.types.size + 1 = n + 2 := ⟨Try.prog.types.size - 1, by kernel_rfl⟩
theorem cellsPl : Try.prog.cellsOf 51 = 3 := by kernel_rfl
theorem cellsI1 : Try.prog.cellsOf 3 = 1 := by kernel_rfl
theorem wf64 {z : Int} (h : I64 z) : (Lit.int .i64 z).wf = true := by
  obtain ⟨h1, h2⟩ := h
  exact WalkArith.wf_i64 (by omega)
theorem keyLits_pl {q : Pl} (h : Wf q) (n : Nat) : Try.prog.keyLits (n + 2) 51 [.int .i64 q.1, .int .i64 q.2.1, .int .i64 q.2.2] = some [.int .i64 q.1, .int .i64 q.2.1, .int .i64 q.2.2] := by
  obtain ⟨h1, h2, h3⟩ := h
  simp [Program.keyLits, Try.underlying51, Try.underlying3, cellsPl, cellsI1, wf64 h1, wf64 h2, wf64 h3]
theorem keyOf_pl {q : Pl} (h : Wf q) : keyOf Try.prog 51 (key q) = some (klit q) := by
  unfold keyOf
  rw [Try.underlying51]
  have hf : (key q).formed Try.prog 51 = true := by simp [key, Value.formed, Try.underlying51, cellsPl]
  have hc : (key q).cells.toList = [.int .i64 q.1, .int .i64 q.2.1, .int .i64 q.2.2] := by simp [key, Value.cells]
  obtain ⟨n, hn⟩ := szPl
  rw [hn, hc, keyLits_pl h n, ktPl, hf]
  rfl
theorem key_inj {q q' : Pl} (h : key q = key q') : q = q' := by
  obtain ⟨a, b, c⟩ := q
  obtain ⟨a', b', c'⟩ := q'
  simp [key] at h
  simp [h]
theorem klit_inj {q q' : Pl} (h : Wf q) (h' : Wf q') (e : klit q = klit q') : q = q' := by
  have h1 := keyOf_pl h
  rw [e] at h1
  exact key_inj (keyedPl.inj h1 (keyOf_pl h'))
def nilS : Value := .slice none 0 0
theorem zeroQ (w : World) : (zeroValue 58).run Try.prog w = .ok nilS w := by kernel_rfl
def RV (v : Value) : Option (DataW Value × List MemPlace) := some (.held v, [])
/-- block mb is a map of at most c entries, with V q at place q (the nil slice: nothing) -/
def QMap (w : World) (mb c : Nat) (V : Pl → Value) : Prop := ∃ D : DataW Value, w.ownsMap Try.prog 51 RV mb c D ∧ ∀ q, Wf q → D.atKey (klit q) (.held nilS) = .held (V q)
def upd {α : Type} (f : Pl → α) (q : Pl) (v : α) : Pl → α := fun p => if p = q then v else f p
theorem upd_same {α : Type} (f : Pl → α) (q : Pl) (v : α) : upd f q v q = v := if_pos rfl
theorem upd_other {α : Type} (f : Pl → α) {q p : Pl} (v : α) (h : p ≠ q) : upd f q v p = f p := if_neg h
theorem QMap.lt {w : World} {mb c : Nat} {V : Pl → Value} (h : QMap w mb c V) : mb < w.heap.size := by
  obtain ⟨D, h1, _⟩ := h
  exact h1.lt
theorem QMap.mono {w : World} {mb c c' : Nat} {V : Pl → Value} (h : QMap w mb c V) (hc : c ≤ c') : QMap w mb c' V := by
  obtain ⟨D, h1, h2⟩ := h
  exact ⟨D, h1.mono hc, h2⟩
theorem QMap.block {w w' : World} {mb c : Nat} {V : Pl → Value} (h : QMap w mb c V) (e : w'.heap[mb]? = w.heap[mb]?) : QMap w' mb c V := by
  obtain ⟨D, ⟨es, clock, hb, r⟩, h2⟩ := h
  exact ⟨D, ⟨es, clock, e.trans hb, r⟩, h2⟩
theorem QMap.sans {F : Nat → Prop} {w w' : World} {mb c : Nat} {V : Pl → Value} (h : QMap w mb c V) (k : Sans F w w') (hn : ¬ F mb) : QMap w' mb c V := h.block (k.block mb h.lt hn)
theorem QMap.new (w : World) : QMap (w.alloc (.map #[] 0)) w.heap.size 0 (fun _ => nilS) :=
  ⟨.map [], World.ownsMap_made _ _ _ _, fun q _ => rfl⟩
theorem QMap.look {w : World} {mb c : Nat} {V : Pl → Value} (h : QMap w mb c V) {q : Pl} (hq : Wf q) : (Instr.lookup 52 (.map (some mb)) (key q) false).run Try.prog w = .ok (V q) w := by
  obtain ⟨D, h1, h2⟩ := h
  obtain ⟨v, ps, hrun, hv⟩ := h1.lookup keyedPl Try.underlying52 (zeroQ w) (zd := .held nilS) (zp := []) rfl (keyOf_pl hq)
  rw [h2 q hq] at hv
  simp [RV] at hv
  rw [hrun, hv.1]
theorem isKey {q : Pl} (hq : Wf q) : WideAt.IsKeyLit (klit q) := keyedPl.key (keyOf_pl hq)
theorem put_at {D : DataW Value} {V : Pl → Value} (hD : Maps.IsMap D) {q : Pl} (hq : Wf q) (v : Value) (h : ∀ q, Wf q → D.atKey (klit q) (.held nilS) = .held (V q)) : ∀ p, Wf p → (D.put (klit q) (.held v)).atKey (klit p) (.held nilS) = .held (upd V q v p) := by
  intro p hp
  by_cases e : p = q
  · subst e
    rw [upd_same, Maps.atKey_put_same hD (isKey hq)]
  · rw [upd_other _ _ e, Maps.atKey_put_other (fun e2 => e (klit_inj hp hq e2))]
    exact h p hp
/-- m[q] = v -/
theorem QMap.store {w : World} {mb c : Nat} {V : Pl → Value} (h : QMap w mb c V) {q : Pl} (hq : Wf q) (v : Value) (hc : c < maxLen) :
    ∃ w', (Instr.mapUpdate 52 (.map (some mb)) (key q) v).run Try.prog w = .ok () w' ∧ QMap w' mb (c + 1) (upd V q v) ∧ Sans (fun k => k = mb) w w' := by
  obtain ⟨D, h1, h2⟩ := h
  obtain ⟨w', hrun, r1, r2⟩ := h1.update (val := v) (d := .held v) (ps := []) keyedPl Try.underlying52 hc (keyOf_pl hq) rfl
  exact ⟨w', hrun, ⟨_, r1, put_at h1.isMap hq v h2⟩, Sans.of_grown r2 (fun k e => by cases e; rfl)⟩
/-- delete(m, q) -/
theorem QMap.strike {w : World} {mb c : Nat} {V : Pl → Value} (h : QMap w mb c V) {q : Pl} (hq : Wf q) (ty : TypeId) :
    ∃ w', (Builtin.delete_ #[52, 51] ty #[.map (some mb), key q]).run Try.prog w = .ok (.tuple #[]) w' ∧ QMap w' mb c (upd V q nilS) ∧ Sans (fun k => k = mb) w w' := by
  obtain ⟨D, h1, h2⟩ := h
  obtain ⟨w', hrun, r1, r2⟩ := h1.drop keyedPl Try.underlying52 (keyOf_pl hq) ty
  refine ⟨w', hrun, ⟨_, r1, fun p hp => ?_⟩, Sans.of_grown r2.grown (fun k e => by cases e; rfl)⟩
  by_cases e : p = q
  · subst e
    rw [upd_same, Maps.atKey_del_same]
  · rw [upd_other _ _ e, Maps.atKey_del_other (fun e2 => e (klit_inj hp hq e2))]
    exact h2 p hp
/-- m[q] = append(m[q], ..), first half: what stands there is read, and its entry is kept at hand; st: the entry's stamp -/
theorem QMap.entry {w : World} {mb c : Nat} {V : Pl → Value} (h : QMap w mb c V) {q : Pl} (hq : Wf q) (hc : c < maxLen) :
    ∃ (st : Nat) (u : World), (Instr.mapEntry 52 (.map (some mb)) (key q)).run Try.prog w = .ok (.tuple #[V q, .int .i64 st]) u ∧ Sans (fun k => k = mb) w u ∧
      ∀ (u2 : World) (v : Value), u2.heap[mb]? = u.heap[mb]? → ∃ u3, (Instr.entryStore 52 (.map (some mb)) (.int .i64 st) v).run Try.prog u2 = .ok () u3 ∧ QMap u3 mb (c + 1) (upd V q v) ∧ Sans (fun k => k = mb) u2 u3 := by
  have hl := h.look hq
  have hup := fun v => h.store hq v hc
  obtain ⟨D, ⟨es, clock, hb, F, hs, rfl⟩, h2⟩ := h
  obtain ⟨v0, st, es1, clock1, hrun, hwho, hback⟩ := WideElems.entry_then_store lawPl Try.underlying52 zeroQ hb F (keyOf_pl hq)
  have hblt : mb < w.heap.size := (Array.getElem?_eq_some_iff.1 hb).1
  have hv0 : v0 = V q := by
    rcases Maps.fit_look false keyedPl Try.underlying52 (zeroQ w) hb F (keyOf_pl hq) with ⟨hr, hno, _⟩ | ⟨e0, y, hm0, h3, hr, _, _, _⟩
    · rw [hl] at hr
      injection hr with e1 _
      rcases hwho with ⟨e0, hm0, h3, _⟩ | ⟨_, rfl⟩
      · exact absurd h3 (hno e0 hm0)
      · exact e1.symm
    · rw [hl] at hr
      injection hr with e1 _
      rcases hwho with ⟨e1', hm1, h4, rfl⟩ | ⟨hno, _⟩
      · have hap := ((MapKept.stamped_iff es clock).1 F.stamped).2.2
        obtain ⟨i, hi, e1i⟩ := List.getElem_of_mem hm0
        obtain ⟨j, hj, e1j⟩ := List.getElem_of_mem hm1
        have hij : i = j := by
          rcases Nat.lt_trichotomy i j with h | h | h
          · exact absurd (by rw [e1i, e1j, h3, h4]) (List.pairwise_iff_getElem.1 hap i j hi hj h)
          · exact h
          · exact absurd (by rw [e1i, e1j, h3, h4]) (List.pairwise_iff_getElem.1 hap j i hj hi h)
        subst hij
        rw [← e1j, e1i]
        exact e1.symm
      · exact absurd h3 (hno e0 hm0)
  subst hv0
  have same : ∀ (u : World) (o : Obj), u.heap[mb]? ≠ none → (ChangeMaps.setBlock u mb o).heap[mb]? = some o := by
    intro u o hu
    have hlt : mb < u.heap.size := by
      rcases Nat.lt_or_ge mb u.heap.size with h' | h'
      · exact h'
      · exact absurd (Array.getElem?_eq_none h') hu
    simp [ChangeMaps.setBlock, hlt]
  have other : ∀ (u : World) (o : Obj), Sans (fun k => k = mb) u (ChangeMaps.setBlock u mb o) := by
    intro u o
    refine ⟨rfl, rfl, rfl, by simp [ChangeMaps.setBlock], fun k hk hn => ?_⟩
    have : mb ≠ k := fun e => hn e.symm
    simp [ChangeMaps.setBlock, this]
  refine ⟨st, _, hrun, other _ _, ?_⟩
  intro u2 v hu2
  rw [same w _ (by rw [hb]; simp)] at hu2
  obtain ⟨es', clock', r1, r2⟩ := hback u2 v hu2
  obtain ⟨w', hrun', q1, q2⟩ := hup v
  rw [r2] at hrun'
  injection hrun' with _ e2
  subst e2
  refine ⟨_, r1, q1.block ?_, other _ _⟩
  rw [same u2 _ (by rw [hu2]; simp), same w _ (by rw [hb]; simp)]
end Go.Proofs.Ytpbeldcaiceakaa
