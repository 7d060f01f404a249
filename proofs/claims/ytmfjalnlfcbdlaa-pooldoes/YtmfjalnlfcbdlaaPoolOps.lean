/-
  A slice of packets, or of calls (package shunterlaw07's Op), that is handed in: what it leads to. Conditions: none.
-/
import Derived.Test.YtmfjalnlfcbdlaaPoolD
import Derived.Deep.Slices
import Derived.ChangeSame
namespace Go.Proofs.Ytmfjalnlfcbdlaa
open Go.ChangeShapes Go.WideShapes Go.ChangeAt Go.RowKit
set_option linter.unusedVariables false

structure OpV where
  k : Nat
  x : Pk
  i : Int
def zop : OpV := ⟨0, zpk, 0⟩
/-- the numbers are of their kinds -/
def OpV.ok (v : OpV) : Prop := v.k < 256 ∧ -9223372036854775808 ≤ v.i ∧ v.i ≤ 9223372036854775807
def OpAt (w : World) (b o : Nat) (v : OpV) : Prop :=
  w.cell? ⟨b, o, none⟩ = some (.int .u8 v.k) ∧ PkAt w b (o + 1) v.x ∧ w.cell? ⟨b, o + 5, none⟩ = some (.int .i64 v.i) ∧ v.ok
def Ops (w : World) (a : Option Addr) (len : Nat) (os : List OpV) : Prop :=
  os.length = len ∧ len ≤ 140737488351232 ∧ (len = 0 ∨ ∃ b off, a = some ⟨b, off, none⟩ ∧ ∀ j, j < len → OpAt w b (off + j * 6) (os.getD j zop))
def Pks (w : World) (a : Option Addr) (len : Nat) (xs : List Pk) : Prop :=
  xs.length = len ∧ len ≤ 140737488351232 ∧ (len = 0 ∨ ∃ b off, a = some ⟨b, off, none⟩ ∧ ∀ j, j < len → PkAt w b (off + j * 4) (xs.getD j zpk))
theorem PkAt.below {w w' : World} {b o : Nat} {v : Pk} (h : PkAt w b o v) (k : Below w.heap.size w w') : PkAt w' b o v := h.sans (F := fun _ => False) (Sans.of_below k) (fun e => e)
theorem OpAt.below {w w' : World} {b o : Nat} {v : OpV} (h : OpAt w b o v) (k : Below w.heap.size w w') : OpAt w' b o v := by
  have hb : b < w.heap.size := cell_lt h.1
  have e : ∀ o, w'.cell? ⟨b, o, none⟩ = w.cell? ⟨b, o, none⟩ := fun o => k.cell (p := ⟨b, o, none⟩) hb
  obtain ⟨h1, h2, h3, h4⟩ := h
  exact ⟨(e _).trans h1, h2.below k, (e _).trans h3, h4⟩
theorem Ops.at {w : World} {a : Option Addr} {len : Nat} {os : List OpV} (h : Ops w a len os) {k : Nat} (hk : k < len) : ∃ b off v, a = some ⟨b, off, none⟩ ∧ OpAt w b (off + k * 6) v := by
  rcases h.2.2 with h0 | ⟨b, off, ha, hc⟩
  · omega
  · exact ⟨b, off, _, ha, hc k hk⟩
theorem Pks.at {w : World} {a : Option Addr} {len : Nat} {os : List Pk} (h : Pks w a len os) {k : Nat} (hk : k < len) : ∃ b off v, a = some ⟨b, off, none⟩ ∧ PkAt w b (off + k * 4) v := by
  rcases h.2.2 with h0 | ⟨b, off, ha, hc⟩
  · omega
  · exact ⟨b, off, _, ha, hc k hk⟩
theorem array3 {α : Type} {cs : List α} (h : cs.length = 3) : ∃ c0 c1 c2, cs = [c0, c1, c2] := by
  match cs, h with
  | [c0, c1, c2], _ => exact ⟨c0, c1, c2, rfl⟩
theorem array4 {α : Type} {cs : List α} (h : cs.length = 4) : ∃ c0 c1 c2 c3, cs = [c0, c1, c2, c3] := by
  match cs, h with
  | [c0, c1, c2, c3], _ => exact ⟨c0, c1, c2, c3, rfl⟩
theorem array6 {α : Type} {cs : List α} (h : cs.length = 6) : ∃ c0 c1 c2 c3 c4 c5, cs = [c0, c1, c2, c3, c4, c5] := by
  match cs, h with
  | [c0, c1, c2, c3, c4, c5], _ => exact ⟨c0, c1, c2, c3, c4, c5, rfl⟩
theorem cells8 : Try.prog.cellsOf 5 = 1 := by kernel_rfl
theorem cells32 : Try.prog.cellsOf 25 = 1 := by kernel_rfl
theorem cellsI : Try.prog.cellsOf 3 = 1 := by kernel_rfl
theorem cellsPk : Try.prog.cellsOf 27 = 4 := by kernel_rfl
theorem bytesPk : Try.prog.bytesOf 27 = 32 := by kernel_rfl
theorem cellsOp : Try.prog.cellsOf 41 = 6 := by kernel_rfl
theorem bytesOp : Try.prog.bytesOf 41 = 48 := by kernel_rfl
theorem infoPk : (Try.prog.info? 27).map (fun i => (i.zero, i.size, i.bytes)) = some (some (.agg #[.int .i64 0, .int .i64 0, .int .i64 0, .int .u32 0]), 4, 32) := by kernel_rfl
/-- packets of noughts, as make lays them -/
def zpks (n : Nat) : Array Value := madeCells (Value.agg #[.int .i64 0, .int .i64 0, .int .i64 0, .int .u32 0]).cells (n * 4)
theorem zpks_size (n : Nat) : (zpks n).size = n * 4 := size_madeCells _ _
theorem make_pks (n : Nat) (hn : n ≤ 200) (w : World) : (Instr.makeSlice 32 (.int .i64 (n : Int)) (.int .i64 (n : Int))).run Try.prog w = .ok (.slice (some ⟨w.heap.size, 0, none⟩) n n) (w.alloc (.cells (zpks n) 27)) := by
  obtain ⟨i, hi, hz0, hz1, hz2⟩ := info_parts infoPk
  have hr := run_make (P := Try.prog) w 32 27 i _ Try.underlying32 hi hz0 .i64 .i64 n n (by omega) (Int.le_refl _) (by rw [hz2]; omega) (by omega)
  simp only [Int.toNat_natCast, hz1] at hr
  exact hr
theorem made_pks (w : World) (n : Nat) (hn : n ≤ 200) : (w.alloc (.cells (zpks n) 27)).ownsRow 0 27 4 (.slice (some ⟨w.heap.size, 0, none⟩) n n) n (zpks n).toList :=
  World.ownsRow_lit w (zpks n) n (Nat.zero_le _) (by unfold maxLen; omega) (zpks_size n)
theorem made_ints (w : World) (n : Nat) (hn : n ≤ 200) : (w.alloc (.cells (madeCells #[.int .i64 0] n) 3)).ownsRow 0 3 1 (.slice (some ⟨w.heap.size, 0, none⟩) n n) n (List.replicate n (.int .i64 0)) := by
  have h := World.ownsRow_lit (base := 0) (e := 3) (size := 1) w (madeCells #[.int .i64 0] n) n (Nat.zero_le _) (by unfold maxLen; omega) (by rw [size_madeCells]; omega)
  rw [toList_madeCells_one] at h
  exact h
def flag (o : Option Pk) : Value := .int .i64 (if o.isSome then 1 else 0)
theorem flags_set (S : List (Option Pk)) (k : Nat) (v : Option Pk) : (S.map flag).set k (flag v) = (S.set k v).map flag := (List.map_set ..).symm
/-- four cells laid one behind the other -/
def lay4 (w : World) (b o : Nat) (x : Pk) : World := (((w.setCell ⟨b, o, none⟩ (.int .i64 x.s)).setCell ⟨b, o + 1, none⟩ (.int .i64 x.d)).setCell ⟨b, o + 2, none⟩ (.int .i64 x.l)).setCell ⟨b, o + 3, none⟩ (.int .u32 x.b)
theorem lay4_sans (w : World) (b o : Nat) (x : Pk) : Sans (fun j => j = b) w (lay4 w b o x) :=
  (((Sans.of_set (F := fun j => j = b) w ⟨b, o, none⟩ _ rfl).then (Sans.of_set _ ⟨b, o + 1, none⟩ _ rfl)).then (Sans.of_set _ ⟨b, o + 2, none⟩ _ rfl)).then (Sans.of_set _ ⟨b, o + 3, none⟩ _ rfl)
theorem lay4_own {w : World} {b n cap o : Nat} {x : Pk} {xs : List Value} (h : w.ownsRow 0 27 4 (.slice (some ⟨b, 0, none⟩) n cap) n xs) : ∃ ys, (lay4 w b o x).ownsRow 0 27 4 (.slice (some ⟨b, 0, none⟩) n cap) n ys :=
  ⟨_, ((((h.stored o _).1.stored (o + 1) _).1.stored (o + 2) _).1.stored (o + 3) _).1⟩
theorem row4 {w : World} {b n cap : Nat} {xs : List Value} (h : w.ownsRow 0 27 4 (.slice (some ⟨b, 0, none⟩) n cap) n xs) {j : Nat} (hj : j < n * 4) : ∃ v, w.cell? ⟨b, j, none⟩ = some v := by
  have hl := h.1
  exact ⟨_, (h.cellAt j hj).trans (List.getElem?_eq_getElem (by omega))⟩
theorem cell_off {w : World} {b i j : Nat} {u v : Value} (hc : w.cell? ⟨b, i, none⟩ = some v) (hij : i ≠ j) : (w.setCell ⟨b, j, none⟩ u).cell? ⟨b, i, none⟩ = some v := cell_set hc hij
theorem lay4_same {w : World} {b n cap o : Nat} {x : Pk} {xs : List Value} (h : w.ownsRow 0 27 4 (.slice (some ⟨b, 0, none⟩) n cap) n xs) (ho : o + 3 < n * 4) : PkAt (lay4 w b o x) b o x := by
  obtain ⟨v0, h0⟩ := row4 h (j := o) (by omega)
  obtain ⟨v1, h1⟩ := row4 (h.stored o (.int .i64 x.s)).1 (j := o + 1) (by omega)
  obtain ⟨v2, h2⟩ := row4 ((h.stored o (.int .i64 x.s)).1.stored (o + 1) (.int .i64 x.d)).1 (j := o + 2) (by omega)
  obtain ⟨v3, h3⟩ := row4 (((h.stored o (.int .i64 x.s)).1.stored (o + 1) (.int .i64 x.d)).1.stored (o + 2) (.int .i64 x.l)).1 (j := o + 3) (by omega)
  exact ⟨cell_off (cell_off (cell_off (World.cell?_setCell_same _ _ _ h0) (by omega)) (by omega)) (by omega), cell_off (cell_off (World.cell?_setCell_same _ _ _ h1) (by omega)) (by omega), cell_off (World.cell?_setCell_same _ _ _ h2) (by omega), World.cell?_setCell_same _ _ _ h3⟩
theorem lay4_other {w : World} {b o q : Nat} {x y : Pk} (h : PkAt w b q y) (hq : q + 3 < o ∨ o + 3 < q) : PkAt (lay4 w b o x) b q y := by
  obtain ⟨h0, h1, h2, h3⟩ := h
  refine ⟨?_, ?_, ?_, ?_⟩ <;> (refine cell_off (cell_off (cell_off (cell_off ?_ ?_) ?_) ?_) ?_ <;> first | assumption | omega)
theorem open_pk {H : Type} {enc : TypeId × Value → H} {w : World} {base : Nat} {n : Nat} {cs : List Value} {x : DataW H × List MemPlace}
    (h : DataW.trod enc Try.prog w base (fun _ => true) true n 27 cs = some x) :
    ∃ v : Pk, cs = [.int .i64 v.s, .int .i64 v.d, .int .i64 v.l, .int .u32 v.b] := by
  obtain ⟨xs, m, _, hx, hl, hlen, hfl⟩ := DataW.trod_struct Try.underlying27 h
  obtain ⟨y0, y1, y2, y3, rfl⟩ := array4 (show xs.length = 4 from hlen)
  obtain ⟨c0, c1, c2, c3, rfl⟩ := array4 (hl.trans cellsPk)
  have t0 := hfl 0 _ rfl
  have t1 := hfl 1 _ rfl
  have t2 := hfl 2 _ rfl
  have t3 := hfl 3 _ rfl
  simp [cellsI, cells32] at t0 t1 t2 t3
  obtain ⟨a0, e0, rfl, w0⟩ := DataW.trod_int Try.underlying3 t0
  obtain ⟨a1, e1, rfl, w1⟩ := DataW.trod_int Try.underlying3 t1
  obtain ⟨a2, e2, rfl, w2⟩ := DataW.trod_int Try.underlying3 t2
  obtain ⟨a3, e3, rfl, w3⟩ := DataW.trod_int Try.underlying25 t3
  simp only [List.cons.injEq, and_true] at e0 e1 e2 e3
  subst e0 e1 e2 e3
  exact ⟨⟨a0, a1, a2, a3⟩, rfl⟩
theorem open_op {H : Type} {enc : TypeId × Value → H} {w : World} {base : Nat} {n : Nat} {cs : List Value} {x : DataW H × List MemPlace}
    (h : DataW.trod enc Try.prog w base (fun _ => true) true n 41 cs = some x) :
    ∃ v : OpV, cs = [.int .u8 v.k, .int .i64 v.x.s, .int .i64 v.x.d, .int .i64 v.x.l, .int .u32 v.x.b, .int .i64 v.i] ∧ v.ok := by
  obtain ⟨xs, m, _, hx, hl, hlen, hfl⟩ := DataW.trod_struct Try.underlying41 h
  obtain ⟨y0, y1, y2, rfl⟩ := array3 (show xs.length = 3 from hlen)
  obtain ⟨c0, c1, c2, c3, c4, c5, rfl⟩ := array6 (hl.trans cellsOp)
  have t0 := hfl 0 _ rfl
  have t1 := hfl 1 _ rfl
  have t2 := hfl 2 _ rfl
  simp [cells8, cellsI, cellsPk] at t0 t1 t2
  obtain ⟨a0, e0, rfl, w0⟩ := DataW.trod_int Try.underlying5 t0
  obtain ⟨v, e1⟩ := open_pk t1
  obtain ⟨a2, e2, rfl, w2⟩ := DataW.trod_int Try.underlying3 t2
  simp only [List.cons.injEq, and_true] at e0 e1 e2
  obtain ⟨e10, e11, e12, e13⟩ := e1
  subst e0 e10 e11 e12 e13 e2
  have b0 := bounds_u8 w0
  have b2 := bounds_i64 w2
  obtain ⟨k, rfl⟩ := Int.eq_ofNat_of_zero_le b0.1
  exact ⟨⟨k, v, a2⟩, rfl, by show k < 256; omega, b2.1, b2.2⟩
theorem add_lit (b off j : Nat) : (⟨b, off, none⟩ : Addr).add j = ⟨b, off + j, none⟩ := by
  unfold Addr.add; split
  · rename_i h; rw [h]; rfl
  · rfl
theorem open_ops {H : Type} {enc : TypeId × Value → H} {w : World} {b0 : Nat} {v : Value} {d : DataW H} {p : List MemPlace}
    (hv : Value.okWide Try.prog w .any b0 37 v) (h : DataW.Trod enc Try.prog w 0 (fun _ => true) true 37 v d p) (hz : ∀ m ∈ d.weights Try.prog 37, m ≤ 140737488351232) :
    ∃ a len cap os, v = .slice a len cap ∧ Ops w a len os ∧ (a = none → len = 0 ∧ cap = 0) ∧ len ≤ cap ∧ cap ≤ 140737488351232 := by
  obtain ⟨a, len, cap, rfl⟩ := okWide_slice Try.underlying37 hv
  obtain ⟨fuel, hf⟩ := h
  rcases Deep.open_slice Try.underlying37 hf with ⟨hcs, _⟩ | ⟨ad, ln, cp, m, n, D, Pl, hcs, _, hl, hm, hmm, hx, hel⟩
  · simp [Value.cells] at hcs
    obtain ⟨rfl, rfl, rfl⟩ := hcs
    exact ⟨none, 0, 0, [], rfl, ⟨rfl, by simp, .inl rfl⟩, fun _ => ⟨rfl, rfl⟩, Nat.le_refl _, by simp⟩
  · simp [Value.cells] at hcs
    obtain ⟨rfl, rfl, rfl⟩ := hcs
    simp only [if_true] at hmm
    simp only [Prod.mk.injEq] at hx
    obtain ⟨hd, _⟩ := hx
    have hcap : cap * 48 ≤ 140737488351232 := by
      refine hz _ ?_
      rw [hd, DataW.weights, Try.underlying37]
      simp only [List.length_map, List.length_range, bytesOp]
      rw [show len + (m - len) = cap by omega]
      exact List.mem_cons_self
    have hel2 : ∀ j, j < len → ∃ x : OpV, w.cells? 0 (ad.add (j * 6)) 6 = some [.int .u8 x.k, .int .i64 x.x.s, .int .i64 x.x.d, .int .i64 x.x.l, .int .u32 x.x.b, .int .i64 x.i] ∧ x.ok := by
      intro j hj
      obtain ⟨cs', h1, h2⟩ := hel j (by omega)
      obtain ⟨x, rfl, hok⟩ := open_op h2
      rw [cellsOp] at h1
      exact ⟨x, h1, hok⟩
    have inh : Inhabited OpV := ⟨zop⟩
    obtain ⟨f, hf2⟩ := Deep.choose_lt hel2
    refine ⟨some ad, len, cap, (List.range len).map f, rfl, ⟨by simp, by omega, ?_⟩, (fun e => by cases e), hl, by omega⟩
    by_cases h0 : len = 0
    · exact .inl h0
    · obtain ⟨b, off, spot⟩ := ad
      have c0 := (World.cells?_some (hf2 0 (by omega)).1).2.2 0 (by omega)
      have hs : spot = none := by
        have := World.cell?_spot (c0.trans rfl)
        simpa [Addr.add] using this
      subst hs
      refine .inr ⟨b, off, rfl, fun j hj => ?_⟩
      have hg : ((List.range len).map f).getD j zop = f j := by simp [List.getD_eq_getElem?_getD, hj]
      rw [hg]
      obtain ⟨hc, hok⟩ := hf2 j hj
      have cc := (World.cells?_some hc).2.2
      rw [add_lit] at cc
      have g : ∀ i, i < 6 → w.cell? ⟨b, off + j * 6 + i, none⟩ = [Value.int .u8 (f j).k, .int .i64 (f j).x.s, .int .i64 (f j).x.d, .int .i64 (f j).x.l, .int .u32 (f j).x.b, .int .i64 (f j).i][i]? := fun i hi => by rw [← add_lit]; exact cc i hi
      exact ⟨g 0 (by omega), ⟨g 1 (by omega), g 2 (by omega), g 3 (by omega), g 4 (by omega)⟩, g 5 (by omega), hok⟩
theorem open_pks {H : Type} {enc : TypeId × Value → H} {w : World} {b0 : Nat} {v : Value} {d : DataW H} {p : List MemPlace}
    (hv : Value.okWide Try.prog w .any b0 32 v) (h : DataW.Trod enc Try.prog w 0 (fun _ => true) true 32 v d p) (hz : ∀ m ∈ d.weights Try.prog 32, m ≤ 140737488351232) :
    ∃ a len cap os, v = .slice a len cap ∧ Pks w a len os ∧ (a = none → len = 0 ∧ cap = 0) ∧ len ≤ cap ∧ cap ≤ 140737488351232 := by
  obtain ⟨a, len, cap, rfl⟩ := okWide_slice Try.underlying32 hv
  obtain ⟨fuel, hf⟩ := h
  rcases Deep.open_slice Try.underlying32 hf with ⟨hcs, _⟩ | ⟨ad, ln, cp, m, n, D, Pl, hcs, _, hl, hm, hmm, hx, hel⟩
  · simp [Value.cells] at hcs
    obtain ⟨rfl, rfl, rfl⟩ := hcs
    exact ⟨none, 0, 0, [], rfl, ⟨rfl, by simp, .inl rfl⟩, fun _ => ⟨rfl, rfl⟩, Nat.le_refl _, by simp⟩
  · simp [Value.cells] at hcs
    obtain ⟨rfl, rfl, rfl⟩ := hcs
    simp only [if_true] at hmm
    simp only [Prod.mk.injEq] at hx
    obtain ⟨hd, _⟩ := hx
    have hcap : cap * 32 ≤ 140737488351232 := by
      refine hz _ ?_
      rw [hd, DataW.weights, Try.underlying32]
      simp only [List.length_map, List.length_range, bytesPk]
      rw [show len + (m - len) = cap by omega]
      exact List.mem_cons_self
    have hel2 : ∀ j, j < len → ∃ x : Pk, w.cells? 0 (ad.add (j * 4)) 4 = some [.int .i64 x.s, .int .i64 x.d, .int .i64 x.l, .int .u32 x.b] := by
      intro j hj
      obtain ⟨cs', h1, h2⟩ := hel j (by omega)
      obtain ⟨x, rfl⟩ := open_pk h2
      rw [cellsPk] at h1
      exact ⟨x, h1⟩
    have inh : Inhabited Pk := ⟨zpk⟩
    obtain ⟨f, hf2⟩ := Deep.choose_lt hel2
    refine ⟨some ad, len, cap, (List.range len).map f, rfl, ⟨by simp, by omega, ?_⟩, (fun e => by cases e), hl, by omega⟩
    by_cases h0 : len = 0
    · exact .inl h0
    · obtain ⟨b, off, spot⟩ := ad
      have c0 := (World.cells?_some (hf2 0 (by omega))).2.2 0 (by omega)
      have hs : spot = none := by
        have := World.cell?_spot (c0.trans rfl)
        simpa [Addr.add] using this
      subst hs
      refine .inr ⟨b, off, rfl, fun j hj => ?_⟩
      have hg : ((List.range len).map f).getD j zpk = f j := by simp [List.getD_eq_getElem?_getD, hj]
      rw [hg]
      have cc := (World.cells?_some (hf2 j hj)).2.2
      rw [add_lit] at cc
      have g : ∀ i, i < 4 → w.cell? ⟨b, off + j * 4 + i, none⟩ = [Value.int .i64 (f j).s, .int .i64 (f j).d, .int .i64 (f j).l, .int .u32 (f j).b][i]? := fun i hi => by rw [← add_lit]; exact cc i hi
      exact ⟨g 0 (by omega), g 1 (by omega), g 2 (by omega), g 3 (by omega)⟩
end Go.Proofs.Ytmfjalnlfcbdlaa
