/-
  A slice of calls (package shunterlaw06's Op: three numbers each) that is handed in: what it leads to. Conditions: none.
-/
import Derived.Test.YtcmfnhakmjginaaBufferDuo
import Derived.Deep.Slices
import Derived.ChangeSame
namespace Go.Proofs.Ytcmfnhakmjginaa
open Go.ChangeShapes Go.WideShapes Go.ChangeAt Go.RowKit
set_option linter.unusedVariables false

structure OpV where
  k : Nat
  n : Nat
  s : Nat
def zop : OpV := ⟨0, 0, 0⟩
/-- the numbers are of their kinds -/
def OpV.ok (v : OpV) : Prop := v.k < 256 ∧ v.n < 256 ∧ v.s < 65536
def OpAt (w : World) (b o : Nat) (v : OpV) : Prop :=
  w.cell? ⟨b, o, none⟩ = some (.int .u8 v.k) ∧ w.cell? ⟨b, o + 1, none⟩ = some (.int .u8 v.n) ∧ w.cell? ⟨b, o + 2, none⟩ = some (.int .u16 v.s) ∧ v.ok
def Ops (w : World) (a : Option Addr) (len : Nat) (os : List OpV) : Prop :=
  os.length = len ∧ len ≤ 140737488351232 ∧ (len = 0 ∨ ∃ b off, a = some ⟨b, off, none⟩ ∧ ∀ j, j < len → OpAt w b (off + j * 3) (os.getD j zop))
theorem OpAt.below {w w' : World} {b o : Nat} {v : OpV} (h : OpAt w b o v) (k : Below w.heap.size w w') : OpAt w' b o v := by
  have hb : b < w.heap.size := cell_lt h.1
  have e : ∀ o, w'.cell? ⟨b, o, none⟩ = w.cell? ⟨b, o, none⟩ := fun o => k.cell (p := ⟨b, o, none⟩) hb
  obtain ⟨h1, h2, h3, h4⟩ := h
  exact ⟨(e _).trans h1, (e _).trans h2, (e _).trans h3, h4⟩
theorem Ops.below {w w' : World} {a : Option Addr} {len : Nat} {os : List OpV} (h : Ops w a len os) (k : Below w.heap.size w w') : Ops w' a len os :=
  ⟨h.1, h.2.1, h.2.2.imp id fun ⟨b, off, ha, hc⟩ => ⟨b, off, ha, fun j hj => (hc j hj).below k⟩⟩
theorem Ops.at {w : World} {a : Option Addr} {len : Nat} {os : List OpV} (h : Ops w a len os) {k : Nat} (hk : k < len) : ∃ b off v, a = some ⟨b, off, none⟩ ∧ OpAt w b (off + k * 3) v := by
  rcases h.2.2 with h0 | ⟨b, off, ha, hc⟩
  · omega
  · exact ⟨b, off, _, ha, hc k hk⟩
theorem array3 {α : Type} {cs : List α} (h : cs.length = 3) : ∃ c0 c1 c2, cs = [c0, c1, c2] := by
  match cs, h with
  | [c0, c1, c2], _ => exact ⟨c0, c1, c2, rfl⟩
theorem cells8 : Try.prog.cellsOf 5 = 1 := by kernel_rfl
theorem cells16 : Try.prog.cellsOf 30 = 1 := by kernel_rfl
theorem cellsOp : Try.prog.cellsOf 40 = 3 := by kernel_rfl
theorem bytesOp : Try.prog.bytesOf 40 = 4 := by kernel_rfl
theorem open_op {H : Type} {enc : TypeId × Value → H} {w : World} {base : Nat} {n : Nat} {cs : List Value} {x : DataW H × List MemPlace}
    (h : DataW.trod enc Try.prog w base (fun _ => true) true n 40 cs = some x) :
    ∃ v : OpV, cs = [.int .u8 v.k, .int .u8 v.n, .int .u16 v.s] ∧ v.ok := by
  obtain ⟨xs, m, _, hx, hl, hlen, hfl⟩ := DataW.trod_struct Try.underlying40 h
  obtain ⟨y0, y1, y2, rfl⟩ := array3 (show xs.length = 3 from hlen)
  obtain ⟨c0, c1, c2, rfl⟩ := array3 (hl.trans cellsOp)
  have t0 := hfl 0 _ rfl
  have t1 := hfl 1 _ rfl
  have t2 := hfl 2 _ rfl
  simp [cells8, cells16] at t0 t1 t2
  obtain ⟨a0, e0, rfl, w0⟩ := DataW.trod_int Try.underlying5 t0
  obtain ⟨a1, e1, rfl, w1⟩ := DataW.trod_int Try.underlying5 t1
  obtain ⟨a2, e2, rfl, w2⟩ := DataW.trod_int Try.underlying30 t2
  simp only [List.cons.injEq, and_true] at e0 e1 e2
  subst e0 e1 e2
  have b0 := bounds_u8 w0
  have b1 := bounds_u8 w1
  have b2 := bounds_u16 w2
  obtain ⟨k, rfl⟩ := Int.eq_ofNat_of_zero_le b0.1
  obtain ⟨z, rfl⟩ := Int.eq_ofNat_of_zero_le b1.1
  obtain ⟨y, rfl⟩ := Int.eq_ofNat_of_zero_le b2.1
  exact ⟨⟨k, z, y⟩, rfl, by show k < 256; omega, by show z < 256; omega, by show y < 65536; omega⟩
theorem add_lit (b off j : Nat) : (⟨b, off, none⟩ : Addr).add j = ⟨b, off + j, none⟩ := by
  unfold Addr.add; split
  · rename_i h; rw [h]; rfl
  · rfl
theorem open_ops {H : Type} {enc : TypeId × Value → H} {w : World} {b0 : Nat} {v : Value} {d : DataW H} {p : List MemPlace}
    (hv : Value.okWide Try.prog w .any b0 35 v) (h : DataW.Trod enc Try.prog w 0 (fun _ => true) true 35 v d p) (hz : ∀ m ∈ d.weights Try.prog 35, m ≤ 140737488351232) :
    ∃ a len cap os, v = .slice a len cap ∧ Ops w a len os ∧ (a = none → len = 0 ∧ cap = 0) ∧ len ≤ cap ∧ cap ≤ 140737488351232 := by
  obtain ⟨a, len, cap, rfl⟩ := okWide_slice Try.underlying35 hv
  obtain ⟨fuel, hf⟩ := h
  rcases Deep.open_slice Try.underlying35 hf with ⟨hcs, _⟩ | ⟨ad, ln, cp, m, n, D, Pl, hcs, _, hl, hm, hmm, hx, hel⟩
  · simp [Value.cells] at hcs
    obtain ⟨rfl, rfl, rfl⟩ := hcs
    exact ⟨none, 0, 0, [], rfl, ⟨rfl, by simp, .inl rfl⟩, fun _ => ⟨rfl, rfl⟩, Nat.le_refl _, by simp⟩
  · simp [Value.cells] at hcs
    obtain ⟨rfl, rfl, rfl⟩ := hcs
    simp only [if_true] at hmm
    simp only [Prod.mk.injEq] at hx
    obtain ⟨hd, _⟩ := hx
    have hcap : cap * 4 ≤ 140737488351232 := by
      refine hz _ ?_
      rw [hd, DataW.weights, Try.underlying35]
      simp only [List.length_map, List.length_range, bytesOp]
      rw [show len + (m - len) = cap by omega]
      exact List.mem_cons_self
    have hel2 : ∀ j, j < len → ∃ x : OpV, w.cells? 0 (ad.add (j * 3)) 3 = some [.int .u8 x.k, .int .u8 x.n, .int .u16 x.s] ∧ x.ok := by
      intro j hj
      obtain ⟨cs', h1, h2⟩ := hel j (by omega)
      obtain ⟨x, rfl, hok⟩ := open_op h2
      rw [cellsOp] at h1
      exact ⟨x, h1, hok⟩
    have inh : Inhabited OpV := ⟨zop⟩
    obtain ⟨f, hf2⟩ := Deep.choose_lt hel2
    refine ⟨some ad, len, cap, (List.range len).map f, rfl, ⟨by simp, by omega, ?_⟩, (fun e => by cases e), hl, by omega⟩
    by_cases h0 : len = 0
    · exact .inl h0
    · obtain ⟨b, off, spot⟩ := ad
      have c0 := (World.cells?_some (hf2 0 (by omega)).1).2.2 0 (by omega)
      have hs : spot = none := by
        have := World.cell?_spot (c0.trans rfl)
        simpa [Addr.add] using this
      subst hs
      refine .inr ⟨b, off, rfl, fun j hj => ?_⟩
      have hg : ((List.range len).map f).getD j zop = f j := by simp [List.getD_eq_getElem?_getD, hj]
      rw [hg]
      obtain ⟨hc, hok⟩ := hf2 j hj
      have cc := (World.cells?_some hc).2.2
      rw [add_lit] at cc
      have g : ∀ i, i < 3 → w.cell? ⟨b, off + j * 3 + i, none⟩ = [Value.int .u8 (f j).k, .int .u8 (f j).n, .int .u16 (f j).s][i]? := fun i hi => by rw [← add_lit]; exact cc i hi
      exact ⟨g 0 (by omega), g 1 (by omega), g 2 (by omega), hok⟩
end Go.Proofs.Ytcmfnhakmjginaa
