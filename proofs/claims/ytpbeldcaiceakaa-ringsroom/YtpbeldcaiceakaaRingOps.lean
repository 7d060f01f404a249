/-
  A slice of calls (package shunterlaw08's Op), or of numbers, that is handed in: what it leads to; the helper near of that package. Conditions: none.
-/
import Derived.Test.YtpbeldcaiceakaaRingK
import Derived.Deep.Slices
import Derived.ChangeSame
namespace Go.Proofs.Ytpbeldcaiceakaa
open Go.ChangeShapes Go.WideShapes Go.ChangeAt Go.RowKit
set_option linter.unusedVariables false

structure OpV where
  k : Nat
  i : Int
  o : Int
  l : Int
  nr : Bool
  x : Pk
def zop : OpV := ⟨0, 0, 0, 0, false, zpk⟩
/-- the numbers are of their kinds -/
def OpV.ok (v : OpV) : Prop := v.k < 256 ∧ I64 v.i ∧ I64 v.o ∧ I64 v.l
def OpAt (w : World) (b o : Nat) (v : OpV) : Prop :=
  w.cell? ⟨b, o, none⟩ = some (.int .u8 v.k) ∧ w.cell? ⟨b, o + 1, none⟩ = some (.int .i64 v.i) ∧ w.cell? ⟨b, o + 2, none⟩ = some (.int .i64 v.o) ∧ w.cell? ⟨b, o + 3, none⟩ = some (.int .i64 v.l) ∧ w.cell? ⟨b, o + 4, none⟩ = some (.bool v.nr) ∧ PkAt w b (o + 5) v.x ∧ v.ok
def Ops (w : World) (a : Option Addr) (len : Nat) (os : List OpV) : Prop :=
  os.length = len ∧ len ≤ 140737488351232 ∧ (len = 0 ∨ ∃ b off, a = some ⟨b, off, none⟩ ∧ ∀ j, j < len → OpAt w b (off + j * 9) (os.getD j zop))
theorem PkAt.below {w w' : World} {b o : Nat} {v : Pk} (h : PkAt w b o v) (k : Below w.heap.size w w') : PkAt w' b o v := h.sans (F := fun _ => False) (Sans.of_below k) (fun e => e)
theorem OpAt.below {w w' : World} {b o : Nat} {v : OpV} (h : OpAt w b o v) (k : Below w.heap.size w w') : OpAt w' b o v := by
  have hb : b < w.heap.size := cell_lt h.1
  have e : ∀ o, w'.cell? ⟨b, o, none⟩ = w.cell? ⟨b, o, none⟩ := fun o => k.cell (p := ⟨b, o, none⟩) hb
  obtain ⟨h1, h2, h3, h4, h5, h6, h7⟩ := h
  exact ⟨(e _).trans h1, (e _).trans h2, (e _).trans h3, (e _).trans h4, (e _).trans h5, h6.below k, h7⟩
theorem Ops.at {w : World} {a : Option Addr} {len : Nat} {os : List OpV} (h : Ops w a len os) {k : Nat} (hk : k < len) : ∃ b off v, a = some ⟨b, off, none⟩ ∧ OpAt w b (off + k * 9) v := by
  rcases h.2.2 with h0 | ⟨b, off, ha, hc⟩
  · omega
  · exact ⟨b, off, _, ha, hc k hk⟩
theorem array4 {α : Type} {cs : List α} (h : cs.length = 4) : ∃ c0 c1 c2 c3, cs = [c0, c1, c2, c3] := by
  match cs, h with
  | [c0, c1, c2, c3], _ => exact ⟨c0, c1, c2, c3, rfl⟩
theorem array6 {α : Type} {cs : List α} (h : cs.length = 6) : ∃ c0 c1 c2 c3 c4 c5, cs = [c0, c1, c2, c3, c4, c5] := by
  match cs, h with
  | [c0, c1, c2, c3, c4, c5], _ => exact ⟨c0, c1, c2, c3, c4, c5, rfl⟩
theorem array9 {α : Type} {cs : List α} (h : cs.length = 9) : ∃ c0 c1 c2 c3 c4 c5 c6 c7 c8, cs = [c0, c1, c2, c3, c4, c5, c6, c7, c8] := by
  match cs, h with
  | [c0, c1, c2, c3, c4, c5, c6, c7, c8], _ => exact ⟨c0, c1, c2, c3, c4, c5, c6, c7, c8, rfl⟩
theorem cells8 : Try.prog.cellsOf 5 = 1 := by kernel_rfl
theorem cells32 : Try.prog.cellsOf 25 = 1 := by kernel_rfl
theorem cellsI : Try.prog.cellsOf 3 = 1 := by kernel_rfl
theorem cellsB : Try.prog.cellsOf 4 = 1 := by kernel_rfl
theorem cellsPk : Try.prog.cellsOf 27 = 4 := by kernel_rfl
theorem cellsOp : Try.prog.cellsOf 35 = 9 := by kernel_rfl
theorem bytesOp : Try.prog.bytesOf 35 = 72 := by kernel_rfl
theorem open_pk {H : Type} {enc : TypeId × Value → H} {w : World} {base : Nat} {n : Nat} {cs : List Value} {x : DataW H × List MemPlace}
    (h : DataW.trod enc Try.prog w base (fun _ => true) true n 27 cs = some x) :
    ∃ v : Pk, cs = [.int .i64 v.s, .int .i64 v.d, .int .i64 v.l, .int .u32 v.b] := by
  obtain ⟨xs, m, _, hx, hl, hlen, hfl⟩ := DataW.trod_struct Try.underlying27 h
  obtain ⟨y0, y1, y2, y3, rfl⟩ := array4 (show xs.length = 4 from hlen)
  obtain ⟨c0, c1, c2, c3, rfl⟩ := array4 (hl.trans cellsPk)
  have t0 := hfl 0 _ rfl
  have t1 := hfl 1 _ rfl
  have t2 := hfl 2 _ rfl
  have t3 := hfl 3 _ rfl
  simp [cellsI, cells32] at t0 t1 t2 t3
  obtain ⟨a0, e0, rfl, w0⟩ := DataW.trod_int Try.underlying3 t0
  obtain ⟨a1, e1, rfl, w1⟩ := DataW.trod_int Try.underlying3 t1
  obtain ⟨a2, e2, rfl, w2⟩ := DataW.trod_int Try.underlying3 t2
  obtain ⟨a3, e3, rfl, w3⟩ := DataW.trod_int Try.underlying25 t3
  simp only [List.cons.injEq, and_true] at e0 e1 e2 e3
  subst e0 e1 e2 e3
  exact ⟨⟨a0, a1, a2, a3⟩, rfl⟩
theorem open_op {H : Type} {enc : TypeId × Value → H} {w : World} {base : Nat} {n : Nat} {cs : List Value} {x : DataW H × List MemPlace}
    (h : DataW.trod enc Try.prog w base (fun _ => true) true n 35 cs = some x) :
    ∃ v : OpV, cs = [.int .u8 v.k, .int .i64 v.i, .int .i64 v.o, .int .i64 v.l, .bool v.nr, .int .i64 v.x.s, .int .i64 v.x.d, .int .i64 v.x.l, .int .u32 v.x.b] ∧ v.ok := by
  obtain ⟨xs, m, _, hx, hl, hlen, hfl⟩ := DataW.trod_struct Try.underlying35 h
  obtain ⟨y0, y1, y2, y3, y4, y5, rfl⟩ := array6 (show xs.length = 6 from hlen)
  obtain ⟨c0, c1, c2, c3, c4, c5, c6, c7, c8, rfl⟩ := array9 (hl.trans cellsOp)
  have t0 := hfl 0 _ rfl
  have t1 := hfl 1 _ rfl
  have t2 := hfl 2 _ rfl
  have t3 := hfl 3 _ rfl
  have t4 := hfl 4 _ rfl
  have t5 := hfl 5 _ rfl
  simp [cells8, cellsI, cellsB, cellsPk] at t0 t1 t2 t3 t4 t5
  obtain ⟨a0, e0, rfl, w0⟩ := DataW.trod_int Try.underlying5 t0
  obtain ⟨a1, e1, rfl, w1⟩ := DataW.trod_int Try.underlying3 t1
  obtain ⟨a2, e2, rfl, w2⟩ := DataW.trod_int Try.underlying3 t2
  obtain ⟨a3, e3, rfl, w3⟩ := DataW.trod_int Try.underlying3 t3
  obtain ⟨a4, e4, rfl⟩ := DataW.trod_bool Try.underlying4 t4
  obtain ⟨v, e5⟩ := open_pk t5
  simp only [List.cons.injEq, and_true] at e0 e1 e2 e3 e4 e5
  obtain ⟨e50, e51, e52, e53⟩ := e5
  subst e0 e1 e2 e3 e4 e50 e51 e52 e53
  have b0 := bounds_u8 w0
  obtain ⟨k, rfl⟩ := Int.eq_ofNat_of_zero_le b0.1
  exact ⟨⟨k, a1, a2, a3, a4, v⟩, rfl, by show k < 256; omega, bounds_i64 w1, bounds_i64 w2, bounds_i64 w3⟩
theorem add_lit (b off j : Nat) : (⟨b, off, none⟩ : Addr).add j = ⟨b, off + j, none⟩ := by
  unfold Addr.add; split
  · rename_i h; rw [h]; rfl
  · rfl
theorem open_ops {H : Type} {enc : TypeId × Value → H} {w : World} {b0 : Nat} {v : Value} {d : DataW H} {p : List MemPlace}
    (hv : Value.okWide Try.prog w .any b0 33 v) (h : DataW.Trod enc Try.prog w 0 (fun _ => true) true 33 v d p) (hz : ∀ m ∈ d.weights Try.prog 33, m ≤ 140737488351232) :
    ∃ a len cap os, v = .slice a len cap ∧ Ops w a len os ∧ (a = none → len = 0 ∧ cap = 0) ∧ len ≤ cap ∧ cap ≤ 140737488351232 := by
  obtain ⟨a, len, cap, rfl⟩ := okWide_slice Try.underlying33 hv
  obtain ⟨fuel, hf⟩ := h
  rcases Deep.open_slice Try.underlying33 hf with ⟨hcs, _⟩ | ⟨ad, ln, cp, m, n, D, Pl, hcs, _, hl, hm, hmm, hx, hel⟩
  · simp [Value.cells] at hcs
    obtain ⟨rfl, rfl, rfl⟩ := hcs
    exact ⟨none, 0, 0, [], rfl, ⟨rfl, by simp, .inl rfl⟩, fun _ => ⟨rfl, rfl⟩, Nat.le_refl _, by simp⟩
  · simp [Value.cells] at hcs
    obtain ⟨rfl, rfl, rfl⟩ := hcs
    simp only [if_true] at hmm
    simp only [Prod.mk.injEq] at hx
    obtain ⟨hd, _⟩ := hx
    have hcap : cap * 72 ≤ 140737488351232 := by
      refine hz _ ?_
      rw [hd, DataW.weights, Try.underlying33]
      simp only [List.length_map, List.length_range, bytesOp]
      rw [show len + (m - len) = cap by omega]
      exact List.mem_cons_self
    have hel2 : ∀ j, j < len → ∃ x : OpV, w.cells? 0 (ad.add (j * 9)) 9 = some [.int .u8 x.k, .int .i64 x.i, .int .i64 x.o, .int .i64 x.l, .bool x.nr, .int .i64 x.x.s, .int .i64 x.x.d, .int .i64 x.x.l, .int .u32 x.x.b] ∧ x.ok := by
      intro j hj
      obtain ⟨cs', h1, h2⟩ := hel j (by omega)
      obtain ⟨x, rfl, hok⟩ := open_op h2
      rw [cellsOp] at h1
      exact ⟨x, h1, hok⟩
    have inh : Inhabited OpV := ⟨zop⟩
    obtain ⟨f, hf2⟩ := Deep.choose_lt hel2
    refine ⟨some ad, len, cap, (List.range len).map f, rfl, ⟨by simp, by omega, ?_⟩, (fun e => by cases e), hl, by omega⟩
    by_cases h0 : len = 0
    · exact .inl h0
    · obtain ⟨b, off, spot⟩ := ad
      have c0 := (World.cells?_some (hf2 0 (by omega)).1).2.2 0 (by omega)
      have hs : spot = none := by
        have := World.cell?_spot (c0.trans rfl)
        simpa [Addr.add] using this
      subst hs
      refine .inr ⟨b, off, rfl, fun j hj => ?_⟩
      have hg : ((List.range len).map f).getD j zop = f j := by simp [List.getD_eq_getElem?_getD, hj]
      rw [hg]
      obtain ⟨hc, hok⟩ := hf2 j hj
      have cc := (World.cells?_some hc).2.2
      rw [add_lit] at cc
      have g : ∀ i, i < 9 → w.cell? ⟨b, off + j * 9 + i, none⟩ = [Value.int .u8 (f j).k, .int .i64 (f j).i, .int .i64 (f j).o, .int .i64 (f j).l, .bool (f j).nr, .int .i64 (f j).x.s, .int .i64 (f j).x.d, .int .i64 (f j).x.l, .int .u32 (f j).x.b][i]? := fun i hi => by rw [← add_lit]; exact cc i hi
      exact ⟨g 0 (by omega), g 1 (by omega), g 2 (by omega), g 3 (by omega), g 4 (by omega), ⟨g 5 (by omega), g 6 (by omega), g 7 (by omega), g 8 (by omega)⟩, hok⟩
/-- numbers that are handed in -/
def Us (w : World) (a : Option Addr) (len : Nat) (us : List Int) : Prop :=
  us.length = len ∧ len ≤ 140737488351232 ∧ (len = 0 ∨ ∃ b off, a = some ⟨b, off, none⟩ ∧ ∀ j, j < len → w.cell? ⟨b, off + j, none⟩ = some (.int .u32 (us.getD j 0)))
theorem Us.at {w : World} {a : Option Addr} {len : Nat} {us : List Int} (h : Us w a len us) {k : Nat} (hk : k < len) : ∃ b off, a = some ⟨b, off, none⟩ ∧ w.cell? ⟨b, off + k, none⟩ = some (.int .u32 (us.getD k 0)) := by
  rcases h.2.2 with h0 | ⟨b, off, ha, hc⟩
  · omega
  · exact ⟨b, off, ha, hc k hk⟩
theorem bytes32 : Try.prog.bytesOf 25 = 4 := by kernel_rfl
theorem open_us {H : Type} {enc : TypeId × Value → H} {w : World} {b0 : Nat} {v : Value} {d : DataW H} {p : List MemPlace}
    (hv : Value.okWide Try.prog w .any b0 45 v) (h : DataW.Trod enc Try.prog w 0 (fun _ => true) true 45 v d p) (hz : ∀ m ∈ d.weights Try.prog 45, m ≤ 140737488351232) :
    ∃ a len cap us, v = .slice a len cap ∧ Us w a len us ∧ (a = none → len = 0 ∧ cap = 0) ∧ len ≤ cap ∧ cap ≤ 140737488351232 := by
  obtain ⟨a, len, cap, rfl⟩ := okWide_slice Try.underlying45 hv
  obtain ⟨fuel, hf⟩ := h
  rcases Deep.open_slice Try.underlying45 hf with ⟨hcs, _⟩ | ⟨ad, ln, cp, m, n, D, Pl, hcs, _, hl, hm, hmm, hx, hel⟩
  · simp [Value.cells] at hcs
    obtain ⟨rfl, rfl, rfl⟩ := hcs
    exact ⟨none, 0, 0, [], rfl, ⟨rfl, by simp, .inl rfl⟩, fun _ => ⟨rfl, rfl⟩, Nat.le_refl _, by simp⟩
  · simp [Value.cells] at hcs
    obtain ⟨rfl, rfl, rfl⟩ := hcs
    simp only [if_true] at hmm
    simp only [Prod.mk.injEq] at hx
    obtain ⟨hd, _⟩ := hx
    have hcap : cap * 4 ≤ 140737488351232 := by
      refine hz _ ?_
      rw [hd, DataW.weights, Try.underlying45]
      simp only [List.length_map, List.length_range, bytes32]
      rw [show len + (m - len) = cap by omega]
      exact List.mem_cons_self
    have hel2 : ∀ j, j < len → ∃ x : Int, w.cells? 0 (ad.add (j * 1)) 1 = some [.int .u32 x] := by
      intro j hj
      obtain ⟨cs', h1, h2⟩ := hel j (by omega)
      obtain ⟨x, rfl, _, _⟩ := DataW.trod_int Try.underlying25 h2
      rw [cells32] at h1
      exact ⟨x, h1⟩
    obtain ⟨f, hf2⟩ := Deep.choose_lt hel2
    refine ⟨some ad, len, cap, (List.range len).map f, rfl, ⟨by simp, by omega, ?_⟩, (fun e => by cases e), hl, by omega⟩
    by_cases h0 : len = 0
    · exact .inl h0
    · obtain ⟨b, off, spot⟩ := ad
      have c0 := (World.cells?_some (hf2 0 (by omega))).2.2 0 (by omega)
      have hs : spot = none := by
        have := World.cell?_spot (c0.trans rfl)
        simpa [Addr.add] using this
      subst hs
      refine .inr ⟨b, off, rfl, fun j hj => ?_⟩
      have hg : ((List.range len).map f).getD j 0 = f j := by simp [List.getD_eq_getElem?_getD, hj]
      rw [hg]
      have cc := (World.cells?_some (hf2 j hj)).2.2
      rw [add_lit] at cc
      have := cc 0 (by omega)
      rw [add_lit, Nat.mul_one] at this
      exact this
/-- what near makes of a number -/
def nv (b : Bool) (m : Int) (z : Int) : Int := if b then (if z < 0 then 0 else z) % m else z
theorem nv_neg {m z : Int} (h : z < 0) : nv true m z = 0 := by unfold nv; rw [if_pos rfl, if_pos h, Int.zero_emod]
theorem nv_pos {m z : Int} (h : 0 ≤ z) : nv true m z = z % m := by unfold nv; rw [if_pos rfl, if_neg (by omega)]
theorem nv_in {m z : Int} (hm : 0 < m) : 0 ≤ nv true m z ∧ nv true m z < m := by
  unfold nv
  rw [if_pos rfl]
  exact ⟨Int.emod_nonneg _ (by omega), Int.emod_lt_of_pos _ hm⟩
theorem nv_wf {b : Bool} {m z : Int} (hm : 0 < m) (hm2 : m ≤ 1000) (h : I64 z) : I64 (nv b m z) := by
  cases b with
  | false => exact h
  | true =>
    have := nv_in (z := z) hm
    unfold I64
    omega
set_option maxHeartbeats 1000000 in
set_option maxRecDepth 100000 in
theorem near_any (v : OpV) (hv : v.ok) (w : World) :
    Calls Try.prog 13 #[.agg #[.int .u8 v.k, .int .i64 v.i, .int .i64 v.o, .int .i64 v.l, .bool v.nr, .int .i64 v.x.s, .int .i64 v.x.d, .int .i64 v.x.l, .int .u32 v.x.b]] w fun e w' => e = .returned (.agg #[.int .u8 v.k, .int .i64 (nv v.nr 3 v.i), .int .i64 (nv v.nr 3 v.o), .int .i64 (nv v.nr 2 v.l), .bool v.nr, .int .i64 v.x.s, .int .i64 v.x.d, .int .i64 v.x.l, .int .u32 v.x.b]) ∧ Below w.heap.size w w' := by
  obtain ⟨k, i, o, l, nr, x⟩ := v
  obtain ⟨_, h1, h2, h3⟩ := hv
  simp only at h1 h2 h3 ⊢
  obtain ⟨a1, b1⟩ := h1
  obtain ⟨a2, b2⟩ := h2
  obtain ⟨a3, b3⟩ := h3
  cases nr with
  | false =>
    go_enter Try.func13, Try.ntmps13
    go_wp2_with fail
    exact bodyPost_ret (v := .agg #[.int .u8 k, .int .i64 i, .int .i64 o, .int .i64 l, .bool false, .int .i64 x.s, .int .i64 x.d, .int .i64 x.l, .int .u32 x.b]) (by simp [results, Try.results13, go_sem]) rfl ⟨rfl, later (fresh _ _) (fresh _ _)⟩
  | true =>
    go_enter Try.func13, Try.ntmps13
    go_wp2_with fail
    all_goals exact bodyPost_ret (v := .agg #[.int .u8 k, .int .i64 (nv true 3 i), .int .i64 (nv true 3 o), .int .i64 (nv true 2 l), .bool true, .int .i64 x.s, .int .i64 x.d, .int .i64 x.l, .int .u32 x.b]) (by simp [results, Try.results13, go_sem, nv_neg, nv_pos, *]) rfl ⟨rfl, later (fresh _ _) (fresh _ _)⟩
end Go.Proofs.Ytpbeldcaiceakaa
