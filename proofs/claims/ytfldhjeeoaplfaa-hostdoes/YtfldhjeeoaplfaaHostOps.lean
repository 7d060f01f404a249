/-
  A slice of calls (package shunterlaw15's Op) that is handed in: what it leads to; a call in its box; the helper near of that package. Conditions: none.
-/
import Derived.Test.YtfldhjeeoaplfaaHostKnown
import Derived.Test.YtfldhjeeoaplfaaPktArg
namespace Go.Proofs.Ytfldhjeeoaplfaa
open Go.ChangeShapes Go.WideShapes Go.ChangeAt Go.RowKit
set_option linter.unusedVariables false

structure OpV where
  k : Nat
  x : Pk
  l : Int
  nr : Bool
def zop : OpV := ⟨0, zpk, 0, false⟩
/-- the numbers are of their kinds -/
def OpV.ok (v : OpV) : Prop := v.k < 256 ∧ Hst.Z64 v.x.l ∧ Hst.Z64 v.l
/-- a call's cells from a place on -/
def OpRaw (w : World) (b o : Nat) (v : OpV) : Prop :=
  w.cell? ⟨b, o, none⟩ = some (.int .u8 v.k) ∧ PkAt w b (o + 1) v.x ∧ w.cell? ⟨b, o + 5, none⟩ = some (.int .i64 v.l) ∧ w.cell? ⟨b, o + 6, none⟩ = some (.bool v.nr)
def OpAt (w : World) (b o : Nat) (v : OpV) : Prop := OpRaw w b o v ∧ v.ok
def Ops (w : World) (a : Option Addr) (len : Nat) (os : List OpV) : Prop :=
  os.length = len ∧ len ≤ 140737488351232 ∧ (len = 0 ∨ ∃ b off, a = some ⟨b, off, none⟩ ∧ ∀ j, j < len → OpAt w b (off + j * 7) (os.getD j zop))
theorem OpRaw.sans {F : Nat → Prop} {w w' : World} {b o : Nat} {v : OpV} (h : OpRaw w b o v) (k : Sans F w w') (hn : ¬ F b) : OpRaw w' b o v := by
  have hb : b < w.heap.size := cell_lt h.1
  have e : ∀ o, w'.cell? ⟨b, o, none⟩ = w.cell? ⟨b, o, none⟩ := fun o => k.cell (p := ⟨b, o, none⟩) hb hn
  obtain ⟨h1, h2, h3, h4⟩ := h
  exact ⟨(e _).trans h1, h2.sans k hn, (e _).trans h3, (e _).trans h4⟩
theorem OpRaw.below {w w' : World} {b o : Nat} {v : OpV} (h : OpRaw w b o v) (k : Below w.heap.size w w') : OpRaw w' b o v := h.sans (F := fun _ => False) (Sans.of_below k) (fun e => e)
theorem OpAt.below {w w' : World} {b o : Nat} {v : OpV} (h : OpAt w b o v) (k : Below w.heap.size w w') : OpAt w' b o v := ⟨h.1.below k, h.2⟩
theorem Ops.at {w : World} {a : Option Addr} {len : Nat} {os : List OpV} (h : Ops w a len os) {k : Nat} (hk : k < len) : ∃ b off v, a = some ⟨b, off, none⟩ ∧ OpAt w b (off + k * 7) v := by
  rcases h.2.2 with h0 | ⟨b, off, ha, hc⟩
  · omega
  · exact ⟨b, off, _, ha, hc k hk⟩
/-- the cells of a box from its beginning on -/
def OpIn (w : World) (b : Nat) (v : OpV) : Prop := OpRaw w b 0 v
theorem OpIn.new (w : World) (v : OpV) : OpIn (w.alloc (.cells #[.int .u8 v.k, .int .i64 v.x.s, .int .i64 v.x.d, .int .i64 v.x.l, .int .u32 v.x.b, .int .i64 v.l, .bool v.nr] 42)) w.heap.size v :=
  ⟨by simp, ⟨by simp, by simp, by simp, by simp⟩, by simp, by simp⟩
theorem OpIn.sans {F : Nat → Prop} {w w' : World} {b : Nat} {v : OpV} (h : OpIn w b v) (k : Sans F w w') (hn : ¬ F b) : OpIn w' b v := OpRaw.sans h k hn
theorem OpIn.below {w w' : World} {b : Nat} {v : OpV} (h : OpIn w b v) (k : Below w.heap.size w w') : OpIn w' b v := OpRaw.below h k
theorem OpIn.all {w : World} {b k : Nat} {x : Pk} {l : Int} {nr : Bool} (h : OpIn w b ⟨k, x, l, nr⟩) : w.cell? ⟨b, 0, none⟩ = some (.int .u8 k) ∧ w.cell? ⟨b, 1, none⟩ = some (.int .i64 x.s) ∧ w.cell? ⟨b, 2, none⟩ = some (.int .i64 x.d) ∧ w.cell? ⟨b, 3, none⟩ = some (.int .i64 x.l) ∧ w.cell? ⟨b, 4, none⟩ = some (.int .u32 x.b) ∧ w.cell? ⟨b, 5, none⟩ = some (.int .i64 l) := by
  obtain ⟨h1, ⟨h2, h3, h4, h5⟩, h6, _⟩ := h
  exact ⟨h1, h2, h3, h4, h5, h6⟩
theorem OpIn.four {w : World} {b k : Nat} {s d z y l : Int} {nr : Bool} (h : OpIn w b ⟨k, ⟨s, d, z, y⟩, l, nr⟩) : w.cell? ⟨b, 1, none⟩ = some (.int .i64 s) ∧ w.cell? ⟨b, 2, none⟩ = some (.int .i64 d) ∧ w.cell? ⟨b, 3, none⟩ = some (.int .i64 z) ∧ w.cell? ⟨b, 4, none⟩ = some (.int .u32 y) := by
  obtain ⟨h1, ⟨h2, h3, h4, h5⟩, h6, _⟩ := h
  exact ⟨h2, h3, h4, h5⟩
theorem array7 {α : Type} {cs : List α} (h : cs.length = 7) : ∃ c0 c1 c2 c3 c4 c5 c6, cs = [c0, c1, c2, c3, c4, c5, c6] := by
  match cs, h with
  | [c0, c1, c2, c3, c4, c5, c6], _ => exact ⟨c0, c1, c2, c3, c4, c5, c6, rfl⟩
theorem cells8 : Try.prog.cellsOf 5 = 1 := by kernel_rfl
theorem cellsB : Try.prog.cellsOf 4 = 1 := by kernel_rfl
theorem cellsOp : Try.prog.cellsOf 42 = 7 := by kernel_rfl
theorem bytesOp : Try.prog.bytesOf 42 = 56 := by kernel_rfl
theorem open_pkz {H : Type} {enc : TypeId × Value → H} {w : World} {base : Nat} {n : Nat} {cs : List Value} {x : DataW H × List MemPlace}
    (h : DataW.trod enc Try.prog w base (fun _ => true) true n 27 cs = some x) :
    ∃ v : Pk, cs = [.int .i64 v.s, .int .i64 v.d, .int .i64 v.l, .int .u32 v.b] ∧ Hst.Z64 v.l := by
  obtain ⟨xs, m, _, hx, hl, hlen, hfl⟩ := DataW.trod_struct Try.underlying27 h
  obtain ⟨y0, y1, y2, y3, rfl⟩ := array4 (show xs.length = 4 from hlen)
  obtain ⟨c0, c1, c2, c3, rfl⟩ := array4 (hl.trans cellsPk)
  have t0 := hfl 0 _ rfl
  have t1 := hfl 1 _ rfl
  have t2 := hfl 2 _ rfl
  have t3 := hfl 3 _ rfl
  simp [cellsI, cells32] at t0 t1 t2 t3
  obtain ⟨a0, e0, rfl, w0⟩ := DataW.trod_int Try.underlying3 t0
  obtain ⟨a1, e1, rfl, w1⟩ := DataW.trod_int Try.underlying3 t1
  obtain ⟨a2, e2, rfl, w2⟩ := DataW.trod_int Try.underlying3 t2
  obtain ⟨a3, e3, rfl, w3⟩ := DataW.trod_int Try.underlying25 t3
  simp only [List.cons.injEq, and_true] at e0 e1 e2 e3
  subst e0 e1 e2 e3
  exact ⟨⟨a0, a1, a2, a3⟩, rfl, bounds_i64 w2⟩
theorem open_op {H : Type} {enc : TypeId × Value → H} {w : World} {base : Nat} {n : Nat} {cs : List Value} {x : DataW H × List MemPlace}
    (h : DataW.trod enc Try.prog w base (fun _ => true) true n 42 cs = some x) :
    ∃ v : OpV, cs = [.int .u8 v.k, .int .i64 v.x.s, .int .i64 v.x.d, .int .i64 v.x.l, .int .u32 v.x.b, .int .i64 v.l, .bool v.nr] ∧ v.ok := by
  obtain ⟨xs, m, _, hx, hl, hlen, hfl⟩ := DataW.trod_struct Try.underlying42 h
  obtain ⟨y0, y1, y2, y3, rfl⟩ := array4 (show xs.length = 4 from hlen)
  obtain ⟨c0, c1, c2, c3, c4, c5, c6, rfl⟩ := array7 (hl.trans cellsOp)
  have t0 := hfl 0 _ rfl
  have t1 := hfl 1 _ rfl
  have t2 := hfl 2 _ rfl
  have t3 := hfl 3 _ rfl
  simp [cells8, cellsI, cellsB, cellsPk] at t0 t1 t2 t3
  obtain ⟨a0, e0, rfl, w0⟩ := DataW.trod_int Try.underlying5 t0
  obtain ⟨v, e1, hz⟩ := open_pkz t1
  obtain ⟨a2, e2, rfl, w2⟩ := DataW.trod_int Try.underlying3 t2
  obtain ⟨a3, e3, rfl⟩ := DataW.trod_bool Try.underlying4 t3
  simp only [List.cons.injEq, and_true] at e0 e1 e2 e3
  obtain ⟨e10, e11, e12, e13⟩ := e1
  subst e0 e10 e11 e12 e13 e2 e3
  have b0 := bounds_u8 w0
  obtain ⟨k, rfl⟩ := Int.eq_ofNat_of_zero_le b0.1
  exact ⟨⟨k, v, a2, a3⟩, rfl, by show k < 256; omega, hz, bounds_i64 w2⟩
theorem open_ops {H : Type} {enc : TypeId × Value → H} {w : World} {b0 : Nat} {v : Value} {d : DataW H} {p : List MemPlace}
    (hv : Value.okWide Try.prog w .any b0 38 v) (h : DataW.Trod enc Try.prog w 0 (fun _ => true) true 38 v d p) (hz : ∀ m ∈ d.weights Try.prog 38, m ≤ 140737488351232) :
    ∃ a len cap os, v = .slice a len cap ∧ Ops w a len os ∧ (a = none → len = 0 ∧ cap = 0) ∧ len ≤ cap ∧ cap ≤ 140737488351232 := by
  obtain ⟨a, len, cap, rfl⟩ := okWide_slice Try.underlying38 hv
  obtain ⟨fuel, hf⟩ := h
  rcases Deep.open_slice Try.underlying38 hf with ⟨hcs, _⟩ | ⟨ad, ln, cp, m, n, D, Pl, hcs, _, hl, hm, hmm, hx, hel⟩
  · simp [Value.cells] at hcs
    obtain ⟨rfl, rfl, rfl⟩ := hcs
    exact ⟨none, 0, 0, [], rfl, ⟨rfl, by simp, .inl rfl⟩, fun _ => ⟨rfl, rfl⟩, Nat.le_refl _, by simp⟩
  · simp [Value.cells] at hcs
    obtain ⟨rfl, rfl, rfl⟩ := hcs
    simp only [if_true] at hmm
    simp only [Prod.mk.injEq] at hx
    obtain ⟨hd, _⟩ := hx
    have hcap : cap * 56 ≤ 140737488351232 := by
      refine hz _ ?_
      rw [hd, DataW.weights, Try.underlying38]
      simp only [List.length_map, List.length_range, bytesOp]
      rw [show len + (m - len) = cap by omega]
      exact List.mem_cons_self
    have hel2 : ∀ j, j < len → ∃ x : OpV, w.cells? 0 (ad.add (j * 7)) 7 = some [.int .u8 x.k, .int .i64 x.x.s, .int .i64 x.x.d, .int .i64 x.x.l, .int .u32 x.x.b, .int .i64 x.l, .bool x.nr] ∧ x.ok := by
      intro j hj
      obtain ⟨cs', h1, h2⟩ := hel j (by omega)
      obtain ⟨x, rfl, hok⟩ := open_op h2
      rw [cellsOp] at h1
      exact ⟨x, h1, hok⟩
    have inh : Inhabited OpV := ⟨zop⟩
    obtain ⟨f, hf2⟩ := Deep.choose_lt hel2
    refine ⟨some ad, len, cap, (List.range len).map f, rfl, ⟨by simp, by omega, ?_⟩, (fun e => by cases e), hl, by omega⟩
    by_cases h0 : len = 0
    · exact .inl h0
    · obtain ⟨b, off, spot⟩ := ad
      have c0 := (World.cells?_some (hf2 0 (by omega)).1).2.2 0 (by omega)
      have hs : spot = none := by
        have := World.cell?_spot (c0.trans rfl)
        simpa [Addr.add] using this
      subst hs
      refine .inr ⟨b, off, rfl, fun j hj => ?_⟩
      have hg : ((List.range len).map f).getD j zop = f j := by simp [List.getD_eq_getElem?_getD, hj]
      rw [hg]
      obtain ⟨hc, hok⟩ := hf2 j hj
      have cc := (World.cells?_some hc).2.2
      rw [add_lit] at cc
      have g : ∀ i, i < 7 → w.cell? ⟨b, off + j * 7 + i, none⟩ = [Value.int .u8 (f j).k, .int .i64 (f j).x.s, .int .i64 (f j).x.d, .int .i64 (f j).x.l, .int .u32 (f j).x.b, .int .i64 (f j).l, .bool (f j).nr][i]? := fun i hi => by rw [← add_lit]; exact cc i hi
      exact ⟨⟨g 0 (by omega), ⟨g 1 (by omega), g 2 (by omega), g 3 (by omega), g 4 (by omega)⟩, g 5 (by omega), g 6 (by omega)⟩, hok⟩
theorem nv_z64 {b : Bool} {m z : Int} (hm : 0 < m) (hm2 : m ≤ 1000) (h : Hst.Z64 z) : Hst.Z64 (nv b m z) := by
  cases b with
  | false => exact h
  | true =>
    have := nv_in (z := z) hm
    unfold Hst.Z64
    omega
set_option maxHeartbeats 1000000 in
set_option maxRecDepth 100000 in
theorem near_any (k : Nat) (x : Pk) (l : Int) (nr : Bool) (h2 : Hst.Z64 x.l) (h3 : Hst.Z64 l) (w : World) :
    Calls Try.prog 15 #[.agg #[.int .u8 k, .int .i64 x.s, .int .i64 x.d, .int .i64 x.l, .int .u32 x.b, .int .i64 l, .bool nr]] w fun e w' => e = .returned (.agg #[.int .u8 k, .int .i64 x.s, .int .i64 x.d, .int .i64 (nv nr 3 x.l), .int .u32 x.b, .int .i64 (nv nr 3 l), .bool nr]) ∧ Below w.heap.size w w' := by
  obtain ⟨s, d, z, b⟩ := x
  simp only at h2 ⊢
  obtain ⟨a1, b1⟩ := h2
  obtain ⟨a2, b2⟩ := h3
  cases nr with
  | false =>
    go_enter Try.func15, Try.ntmps15
    go_wp2_with fail
    exact bodyPost_ret (v := .agg #[.int .u8 k, .int .i64 s, .int .i64 d, .int .i64 z, .int .u32 b, .int .i64 l, .bool false]) (by simp [results, Try.results15, go_sem]) rfl ⟨rfl, later (fresh _ _) (fresh _ _)⟩
  | true =>
    go_enter Try.func15, Try.ntmps15
    go_wp2_with fail
    all_goals exact bodyPost_ret (v := .agg #[.int .u8 k, .int .i64 s, .int .i64 d, .int .i64 (nv true 3 z), .int .u32 b, .int .i64 (nv true 3 l), .bool true]) (by simp [results, Try.results15, go_sem, nv_neg, nv_pos, *]) rfl ⟨rfl, later (fresh _ _) (fresh _ _)⟩
end Go.Proofs.Ytfldhjeeoaplfaa
