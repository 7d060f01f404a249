/-
  A slice of calls (package shunterlaw04's Op) that is handed in: what it leads to. Conditions: none.
-/
import Derived.Test.YtjelfenkbngfiaaOctets
import Derived.Deep.Slices
import Derived.ChangeSame
namespace Go.Proofs.Ytjelfenkbngfiaa
open Go.ChangeShapes Go.WideShapes Go.ChangeAt Go.RowKit
set_option linter.unusedVariables false

structure OpV where
  k : Nat
  a : Option Addr
  len : Nat
  cap : Nat
  l : List Nat
  i : Int
  t : Int
  x : Nat
def zop : OpV := ⟨0, none, 0, 0, [], 0, 0, 0⟩
/-- the numbers are of their kinds, and the bytes lie there -/
def OpV.ok (w : World) (v : OpV) : Prop := Octs w v.a v.len v.l ∧ (v.a = none → v.len = 0 ∧ v.cap = 0) ∧ v.len ≤ v.cap ∧ v.cap ≤ 140737488351232 ∧ v.k < 256 ∧ v.x < 256 ∧ -9223372036854775808 ≤ v.i ∧ v.i ≤ 9223372036854775807 ∧ -9223372036854775808 ≤ v.t ∧ v.t ≤ 9223372036854775807
def OpAt (w : World) (b o : Nat) (v : OpV) : Prop :=
  w.cell? ⟨b, o, none⟩ = some (.int .u8 v.k) ∧ w.cell? ⟨b, o + 1, none⟩ = some (.slice v.a v.len v.cap) ∧ w.cell? ⟨b, o + 2, none⟩ = some (.int .i64 v.i) ∧ w.cell? ⟨b, o + 3, none⟩ = some (.int .i64 v.t) ∧ w.cell? ⟨b, o + 4, none⟩ = some (.int .u8 v.x) ∧ v.ok w
def Ops (w : World) (a : Option Addr) (len : Nat) (os : List OpV) : Prop :=
  os.length = len ∧ len ≤ 140737488351232 ∧ (len = 0 ∨ ∃ b off, a = some ⟨b, off, none⟩ ∧ ∀ j, j < len → OpAt w b (off + j * 5) (os.getD j zop))
theorem OpV.ok.below {w w' : World} {v : OpV} (h : v.ok w) (k : Below w.heap.size w w') : v.ok w' := ⟨h.1.below k, h.2⟩
theorem OpAt.below {w w' : World} {b o : Nat} {v : OpV} (h : OpAt w b o v) (k : Below w.heap.size w w') : OpAt w' b o v := by
  have hb : b < w.heap.size := cell_lt h.1
  have e : ∀ o, w'.cell? ⟨b, o, none⟩ = w.cell? ⟨b, o, none⟩ := fun o => k.cell (p := ⟨b, o, none⟩) hb
  obtain ⟨h1, h2, h3, h4, h5, h6⟩ := h
  exact ⟨(e _).trans h1, (e _).trans h2, (e _).trans h3, (e _).trans h4, (e _).trans h5, h6.below k⟩
theorem Ops.below {w w' : World} {a : Option Addr} {len : Nat} {os : List OpV} (h : Ops w a len os) (k : Below w.heap.size w w') : Ops w' a len os :=
  ⟨h.1, h.2.1, h.2.2.imp id fun ⟨b, off, ha, hc⟩ => ⟨b, off, ha, fun j hj => (hc j hj).below k⟩⟩
theorem array5 {α : Type} {cs : List α} (h : cs.length = 5) : ∃ c0 c1 c2 c3 c4, cs = [c0, c1, c2, c3, c4] := by
  match cs, h with
  | [c0, c1, c2, c3, c4], _ => exact ⟨c0, c1, c2, c3, c4, rfl⟩
theorem cells8 : Try.prog.cellsOf 5 = 1 := by kernel_rfl
theorem cellsI : Try.prog.cellsOf 3 = 1 := by kernel_rfl
theorem cellsB : Try.prog.cellsOf 29 = 1 := by kernel_rfl
theorem cellsOp : Try.prog.cellsOf 31 = 5 := by kernel_rfl
theorem bytes8 : Try.prog.bytesOf 5 = 1 := by kernel_rfl
theorem bytesOp : Try.prog.bytesOf 31 = 56 := by kernel_rfl
theorem open_op {H : Type} {enc : TypeId × Value → H} {w : World} {base : Nat} {n : Nat} {cs : List Value} {x : DataW H × List MemPlace}
    (h : DataW.trod enc Try.prog w base (fun _ => true) true n 31 cs = some x) (hz : ∀ m ∈ x.1.weights Try.prog 31, m ≤ 140737488351232) :
    ∃ v : OpV, cs = [.int .u8 v.k, .slice v.a v.len v.cap, .int .i64 v.i, .int .i64 v.t, .int .u8 v.x] ∧ v.ok w := by
  obtain ⟨xs, m, _, hx, hl, hlen, hfl⟩ := DataW.trod_struct Try.underlying31 h
  obtain ⟨y0, y1, y2, y3, y4, rfl⟩ := array5 (show xs.length = 5 from hlen)
  obtain ⟨c0, c1, c2, c3, c4, rfl⟩ := array5 (hl.trans cellsOp)
  have t0 := hfl 0 _ rfl
  have t1 := hfl 1 _ rfl
  have t2 := hfl 2 _ rfl
  have t3 := hfl 3 _ rfl
  have t4 := hfl 4 _ rfl
  simp [cells8, cellsI, cellsB] at t0 t1 t2 t3 t4
  obtain ⟨a0, e0, rfl, w0⟩ := DataW.trod_int Try.underlying5 t0
  obtain ⟨a2, e2, rfl, w2⟩ := DataW.trod_int Try.underlying3 t2
  obtain ⟨a3, e3, rfl, w3⟩ := DataW.trod_int Try.underlying3 t3
  obtain ⟨a4, e4, rfl, w4⟩ := DataW.trod_int Try.underlying5 t4
  simp only [List.cons.injEq, and_true] at e0 e2 e3 e4
  subst e0 e2 e3 e4
  have b0 := bounds_u8 w0
  have b2 := bounds_i64 w2
  have b3 := bounds_i64 w3
  have b4 := bounds_u8 w4
  obtain ⟨k, rfl⟩ := Int.eq_ofNat_of_zero_le b0.1
  obtain ⟨z, rfl⟩ := Int.eq_ofNat_of_zero_le b4.1
  rcases open_ints Try.underlying29 Try.underlying5 cells8 t1 with ⟨hcs, _⟩ | ⟨ad, ln, cp, zs, hcs, _, hll, hm, hz2, hx1, hcell, hwz⟩
  · simp only [List.cons.injEq, and_true] at hcs
    subst hcs
    exact ⟨⟨k, none, 0, 0, [], a2, a3, z⟩, rfl, Octs.empty, fun _ => ⟨rfl, rfl⟩, Nat.le_refl _, by simp, by show k < 256; omega, by show z < 256; omega, b2.1, b2.2, b3.1, b3.2⟩
  · simp only [List.cons.injEq, and_true] at hcs
    subst hcs
    have hzl : zs.length = cp := by simpa using hz2
    have ho := octs_of (w := w) (a := some ad) (len := ln) (cap := cp) (zs := zs) (.inr ⟨ad, rfl, hll, hm, hzl, hcell, hwz⟩)
    have hcap : cp ≤ 140737488351232 := by
      refine hz cp ?_
      rw [hx]
      simp [DataW.weights, DataW.weightsEach, Try.underlying31, hx1, Try.underlying29, bytes8, lits]
      left; omega
    exact ⟨⟨k, some ad, ln, cp, _, a2, a3, z⟩, rfl, ho, (fun e => by cases e), hll, hcap, by show k < 256; omega, by show z < 256; omega, b2.1, b2.2, b3.1, b3.2⟩
theorem add_lit (b off j : Nat) : (⟨b, off, none⟩ : Addr).add j = ⟨b, off + j, none⟩ := by
  unfold Addr.add; split
  · rename_i h; rw [h]; rfl
  · rfl
theorem weights_all {H : Type} {e : TypeId} {n : Nat} {D : Nat → DataW H} {j m : Nat} (hj : j < n) (hm : m ∈ (D j).weights Try.prog e) : m ∈ DataW.weightsAll Try.prog e ((List.range n).map D) := by
  have g : ∀ (l : List (DataW H)) (d : DataW H), d ∈ l → m ∈ d.weights Try.prog e → m ∈ DataW.weightsAll Try.prog e l := by
    intro l
    induction l with
    | nil => intro d hd; cases hd
    | cons x r ih =>
      intro d hd hm
      rw [DataW.weightsAll, List.mem_append]
      rcases List.mem_cons.1 hd with rfl | hd
      · exact .inl hm
      · exact .inr (ih d hd hm)
  exact g _ _ (List.mem_map.2 ⟨j, List.mem_range.2 hj, rfl⟩) hm
theorem open_ops {H : Type} {enc : TypeId × Value → H} {w : World} {b0 : Nat} {v : Value} {d : DataW H} {p : List MemPlace}
    (hv : Value.okWide Try.prog w .any b0 22 v) (h : DataW.Trod enc Try.prog w 0 (fun _ => true) true 22 v d p) (hz : ∀ m ∈ d.weights Try.prog 22, m ≤ 140737488351232) :
    ∃ a len cap os, v = .slice a len cap ∧ Ops w a len os ∧ (a = none → len = 0 ∧ cap = 0) ∧ len ≤ cap ∧ cap ≤ 140737488351232 := by
  obtain ⟨a, len, cap, rfl⟩ := okWide_slice Try.underlying22 hv
  obtain ⟨fuel, hf⟩ := h
  rcases Deep.open_slice Try.underlying22 hf with ⟨hcs, _⟩ | ⟨ad, ln, cp, m, n, D, Pl, hcs, _, hl, hm, hmm, hx, hel⟩
  · simp [Value.cells] at hcs
    obtain ⟨rfl, rfl, rfl⟩ := hcs
    exact ⟨none, 0, 0, [], rfl, ⟨rfl, by simp, .inl rfl⟩, fun _ => ⟨rfl, rfl⟩, Nat.le_refl _, by simp⟩
  · simp [Value.cells] at hcs
    obtain ⟨rfl, rfl, rfl⟩ := hcs
    simp only [if_true] at hmm
    simp only [Prod.mk.injEq] at hx
    obtain ⟨hd, _⟩ := hx
    have hcap : cap * 56 ≤ 140737488351232 := by
      refine hz _ ?_
      rw [hd, DataW.weights, Try.underlying22]
      simp only [List.length_map, List.length_range, bytesOp]
      rw [show len + (m - len) = cap by omega]
      exact List.mem_cons_self
    have hel2 : ∀ j, j < len → ∃ x : OpV, w.cells? 0 (ad.add (j * 5)) 5 = some [.int .u8 x.k, .slice x.a x.len x.cap, .int .i64 x.i, .int .i64 x.t, .int .u8 x.x] ∧ x.ok w := by
      intro j hj
      obtain ⟨cs', h1, h2⟩ := hel j (by omega)
      obtain ⟨x, rfl, hok⟩ := open_op h2 (fun q hq => hz q (by
        rw [hd, DataW.weights, Try.underlying22]
        exact List.mem_cons_of_mem _ (List.mem_append_left _ (weights_all hj hq))))
      rw [cellsOp] at h1
      exact ⟨x, h1, hok⟩
    have inh : Inhabited OpV := ⟨zop⟩
    obtain ⟨f, hf2⟩ := Deep.choose_lt hel2
    refine ⟨some ad, len, cap, (List.range len).map f, rfl, ⟨by simp, by omega, ?_⟩, (fun e => by cases e), hl, by omega⟩
    by_cases h0 : len = 0
    · exact .inl h0
    · obtain ⟨b, off, spot⟩ := ad
      have c0 := (World.cells?_some (hf2 0 (by omega)).1).2.2 0 (by omega)
      have hs : spot = none := by
        have := World.cell?_spot (c0.trans rfl)
        simpa [Addr.add] using this
      subst hs
      refine .inr ⟨b, off, rfl, fun j hj => ?_⟩
      have hg : ((List.range len).map f).getD j zop = f j := by simp [List.getD_eq_getElem?_getD, hj]
      rw [hg]
      obtain ⟨hc, hok⟩ := hf2 j hj
      have cc := (World.cells?_some hc).2.2
      rw [add_lit] at cc
      have g : ∀ i, i < 5 → w.cell? ⟨b, off + j * 5 + i, none⟩ = [Value.int .u8 (f j).k, .slice (f j).a (f j).len (f j).cap, .int .i64 (f j).i, .int .i64 (f j).t, .int .u8 (f j).x][i]? := fun i hi => by rw [← add_lit]; exact cc i hi
      exact ⟨g 0 (by omega), g 1 (by omega), g 2 (by omega), g 3 (by omega), g 4 (by omega), hok⟩
/-- how many bytes the first n have -/
def bulk (os : List OpV) : Nat := (os.map (·.len)).sum
end Go.Proofs.Ytjelfenkbngfiaa
