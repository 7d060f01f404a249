/-
  A plan that is handed in by value: what its rows lead to. Conditions: none.
-/
import Derived.Test.YtphaaolnmbadcaaPlanRow
import Derived.Deep.Slices
import Derived.Deep.Fields
import Derived.ChangeSame
import Derived.SizedLaws
namespace Go.Proofs.Ytphaaolnmbadcaa
open Go.ChangeShapes Go.WideShapes Go.ChangeAt Go.RowKit
set_option linter.unusedVariables false
set_option maxRecDepth 100000

theorem weights_all {H : Type} {e : TypeId} {n : Nat} {D : Nat → DataW H} {j m : Nat} (hj : j < n) (hm : m ∈ (D j).weights Try.prog e) : m ∈ DataW.weightsAll Try.prog e ((List.range n).map D) := by
  have g : ∀ (l : List (DataW H)) (d : DataW H), d ∈ l → m ∈ d.weights Try.prog e → m ∈ DataW.weightsAll Try.prog e l := by
    intro l
    induction l with
    | nil => intro d hd; cases hd
    | cons x r ih =>
      intro d hd hm
      rw [DataW.weightsAll, List.mem_append]
      rcases List.mem_cons.1 hd with rfl | hd
      · exact .inl hm
      · exact .inr (ih d hd hm)
  exact g _ _ (List.mem_map.2 ⟨j, List.mem_range.2 hj, rfl⟩) hm
/-- a slice of whatever is opened one by one -/
theorem open_list {α H : Type} (dflt : α) {enc : TypeId × Value → H} {w : World} {t e : TypeId} {sz bytes fuel : Nat} {cs : List Value} {x : DataW H × List MemPlace} (ht : Try.prog.underlying t = some (.slice e)) (hc : Try.prog.cellsOf e = sz) (hby : Try.prog.bytesOf e = bytes) (F : α → List Value) (OK : α → Prop)
    (hel0 : ∀ (n : Nat) (cs : List Value) (x : DataW H × List MemPlace), DataW.trod enc Try.prog w 0 (fun _ => true) true n e cs = some x → (∀ m ∈ x.1.weights Try.prog e, m ≤ 140737488351232) → ∃ y : α, cs = F y ∧ OK y)
    (hf : DataW.trod enc Try.prog w 0 (fun _ => true) true fuel t cs = some x) (hz : ∀ m ∈ x.1.weights Try.prog t, m ≤ 140737488351232) :
    ∃ a len cap, ∃ l : List α, cs = [.slice a len cap] ∧ l.length = len ∧ len ≤ cap ∧ cap ≤ maxLen ∧ cap * bytes ≤ 140737488351232 ∧ (a = none → cap = 0) ∧ (∀ y ∈ l, OK y) ∧ (len = 0 ∨ ∃ ad, a = some ad ∧ ∀ j, j < len → w.cells? 0 (ad.add (j * sz)) sz = some (F (l.getD j dflt))) := by
  obtain ⟨d, pl⟩ := x
  rcases Deep.open_slice ht hf with ⟨hcs, _⟩ | ⟨ad, len, cap, m, n, D, Pl, hcs, _, hl, hm, hmm, hx, hel⟩
  · exact ⟨none, 0, 0, [], hcs, rfl, Nat.le_refl _, Nat.zero_le _, by omega, fun _ => rfl, by simp, .inl rfl⟩
  · simp only [if_true] at hmm
    simp only [Prod.mk.injEq] at hx
    obtain ⟨hd, _⟩ := hx
    have hcap : cap * bytes ≤ 140737488351232 := by
      refine hz _ ?_
      rw [hd, DataW.weights, ht]
      simp only [List.length_map, List.length_range, hby]
      rw [show len + (m - len) = cap by omega]
      exact List.mem_cons_self
    have hel2 : ∀ j, j < len → ∃ y : α, w.cells? 0 (ad.add (j * sz)) sz = some (F y) ∧ OK y := by
      intro j hj
      obtain ⟨cs', h1, h2⟩ := hel j (by omega)
      obtain ⟨y, rfl, hok⟩ := hel0 _ _ _ h2 (fun q hq => hz q (by
        rw [hd, DataW.weights, ht]
        exact List.mem_cons_of_mem _ (List.mem_append_left _ (weights_all hj hq))))
      rw [hc] at h1
      exact ⟨y, h1, hok⟩
    have inh : Inhabited α := ⟨dflt⟩
    obtain ⟨f, hf2⟩ := Deep.choose_lt hel2
    refine ⟨some ad, len, cap, (List.range len).map f, hcs, by simp, hl, hm, hcap, (fun e => by cases e), ?_, ?_⟩
    · intro y hy
      obtain ⟨j, hj, rfl⟩ := List.mem_map.1 hy
      exact (hf2 j (List.mem_range.1 hj)).2
    · refine .inr ⟨ad, rfl, fun j hj => ?_⟩
      have hg : ((List.range len).map f).getD j dflt = f j := by simp [List.getD_eq_getElem?_getD, hj]
      rw [hg]
      exact (hf2 j hj).1
theorem cellsInt : Try.prog.cellsOf 3 = 1 := by kernel_rfl
theorem cellsU16 : Try.prog.cellsOf 24 = 1 := by kernel_rfl
theorem cellsIs : Try.prog.cellsOf 23 = 1 := by kernel_rfl
theorem cellsEs : Try.prog.cellsOf 22 = 1 := by kernel_rfl
theorem cellsNs : Try.prog.cellsOf 25 = 1 := by kernel_rfl
theorem cellsE : Try.prog.cellsOf 31 = 2 := by kernel_rfl
theorem cellsP : Try.prog.cellsOf 27 = 11 := by kernel_rfl
theorem bytesInt : Try.prog.bytesOf 3 = 8 := by kernel_rfl
theorem bytesIs : Try.prog.bytesOf 23 = 24 := by kernel_rfl
theorem bytesE : Try.prog.bytesOf 31 = 16 := by kernel_rfl
/-- cells side by side, one by one -/
theorem cells_at {w : World} {ad : Addr} {k : Nat} {l : List Value} (h : w.cells? 0 ad k = some l) (hk : 0 < k) : ∃ b off, ad = ⟨b, off, none⟩ ∧ b < w.heap.size ∧ ∀ i, i < k → w.cell? ⟨b, off + i, none⟩ = l[i]? := by
  obtain ⟨h1, h2, h3⟩ := World.cells?_some h
  obtain ⟨b, off, spot⟩ := ad
  have hl : l.length = k := by first | exact h1 | exact h2 | omega
  have c0 := h3 0 hk
  rw [List.getElem?_eq_getElem (by omega)] at c0
  have hs : spot = none := by
    have := World.cell?_spot c0
    simpa [Addr.add] using this
  subst hs
  have g : ∀ i, i < k → w.cell? ⟨b, off + i, none⟩ = l[i]? := fun i hi => by
    have := h3 i hi
    rw [add_lit] at this
    exact this
  refine ⟨b, off, rfl, ?_, g⟩
  have := g 0 hk
  rw [List.getElem?_eq_getElem (by omega)] at this
  exact cell_lt this
section
variable {H : Type} {enc : TypeId × Value → H} {w : World}
theorem open_zr {fuel : Nat} {cs : List Value} {x : DataW H × List MemPlace} (hf : DataW.trod enc Try.prog w 0 (fun _ => true) true fuel 23 cs = some x) (hz : ∀ m ∈ x.1.weights Try.prog 23, m ≤ 140737488351232) :
    ∃ a len cap l, cs = [.slice a len cap] ∧ Zr w a len l ∧ len ≤ cap ∧ cap ≤ maxLen ∧ (a = none → cap = 0) ∧ len ≤ 17592186044416 ∧ ∀ y ∈ l, I64 y := by
  obtain ⟨a, len, cap, l, hcs, hl, hlc, hcm, hcb, hnil, hok, hcell⟩ := open_list (0 : Int) Try.underlying23 cellsInt bytesInt (fun y => [Value.int .i64 y]) I64 (fun n cs x h _ => by
    obtain ⟨y, hy, _, wy⟩ := DataW.trod_int Try.underlying3 h
    have := bounds_i64 wy
    exact ⟨y, hy, this.1, this.2⟩) hf hz
  refine ⟨a, len, cap, l, hcs, ⟨hl, by omega, ?_⟩, hlc, hcm, hnil, by omega, hok⟩
  rcases hcell with h0 | ⟨ad, rfl, hc⟩
  · exact .inl h0
  · by_cases h0 : len = 0
    · exact .inl h0
    · obtain ⟨b, off, e, hb, _⟩ := cells_at (hc 0 (by omega)) (by omega)
      rw [Nat.zero_mul] at e
      obtain ⟨b', off', spot⟩ := ad
      have e' : (⟨b', off', spot⟩ : Addr) = ⟨b, off, none⟩ := by simpa [Addr.add] using e
      cases e'
      refine .inr ⟨b, off, rfl, hb, fun i hi => ?_⟩
      obtain ⟨b2, off2, e2, _, c2⟩ := cells_at (hc i hi) (by omega)
      rw [add_lit] at e2
      cases e2
      have := c2 0 (by omega)
      simpa using this
theorem open_pr {fuel : Nat} {cs : List Value} {x : DataW H × List MemPlace} (hf : DataW.trod enc Try.prog w 0 (fun _ => true) true fuel 22 cs = some x) (hz : ∀ m ∈ x.1.weights Try.prog 22, m ≤ 140737488351232) :
    ∃ a len cap l, cs = [.slice a len cap] ∧ Pr w a len l ∧ len ≤ cap ∧ cap ≤ maxLen ∧ (a = none → cap = 0) ∧ len ≤ 8796093022208 ∧ ∀ y ∈ l, I64 y.1 ∧ I64 y.2 := by
  obtain ⟨a, len, cap, l, hcs, hl, hlc, hcm, hcb, hnil, hok, hcell⟩ := open_list ((0, 0) : Int × Int) Try.underlying22 cellsE bytesE (fun y => [Value.int .i64 y.1, .int .i64 y.2]) (fun y => I64 y.1 ∧ I64 y.2) (fun n cs x h _ => by
    obtain ⟨xs, m, _, hx, hl, hlen, hfl⟩ := DataW.trod_struct Try.underlying31 h
    match xs, hlen with
    | [y0, y1], _ =>
      match cs, hl.trans cellsE with
      | [c0, c1], _ =>
        have t0 := hfl 0 _ rfl
        have t1 := hfl 1 _ rfl
        simp [cellsInt] at t0 t1
        obtain ⟨a0, e0, _, w0⟩ := DataW.trod_int Try.underlying3 t0
        obtain ⟨a1, e1, _, w1⟩ := DataW.trod_int Try.underlying3 t1
        simp only [List.cons.injEq, and_true] at e0 e1
        subst e0 e1
        have b0 := bounds_i64 w0
        have b1 := bounds_i64 w1
        exact ⟨(a0, a1), rfl, ⟨b0.1, b0.2⟩, b1.1, b1.2⟩) hf hz
  refine ⟨a, len, cap, l, hcs, ⟨hl, by omega, ?_⟩, hlc, hcm, hnil, by omega, hok⟩
  rcases hcell with h0 | ⟨ad, rfl, hc⟩
  · exact .inl h0
  · by_cases h0 : len = 0
    · exact .inl h0
    · obtain ⟨b, off, e, hb, _⟩ := cells_at (hc 0 (by omega)) (by omega)
      rw [Nat.zero_mul] at e
      obtain ⟨b', off', spot⟩ := ad
      have e' : (⟨b', off', spot⟩ : Addr) = ⟨b, off, none⟩ := by simpa [Addr.add] using e
      cases e'
      refine .inr ⟨b, off, rfl, hb, fun i hi => ?_⟩
      obtain ⟨b2, off2, e2, _, c2⟩ := cells_at (hc i hi) (by omega)
      rw [add_lit] at e2
      cases e2
      have h1 := c2 0 (by omega)
      have h2 := c2 1 (by omega)
      exact ⟨by simpa using h1, by simpa using h2⟩
theorem cells8' : Try.prog.cellsOf 5 = 1 := by kernel_rfl
theorem bytes8' : Try.prog.bytesOf 5 = 1 := by kernel_rfl
theorem open_bs0 {fuel : Nat} {cs : List Value} {x : DataW H × List MemPlace} (hf : DataW.trod enc Try.prog w 0 (fun _ => true) true fuel 38 cs = some x) (hz : ∀ m ∈ x.1.weights Try.prog 38, m ≤ 140737488351232) :
    ∃ a len cap l, cs = [.slice a len cap] ∧ Octs w a len l := by
  obtain ⟨a, len, cap, l, hcs, hl, hlc, hcm, hcb, hnil, hok, hcell⟩ := open_list (0 : Nat) Try.underlying38 cells8' bytes8' (fun y => [Value.int .u8 (y : Nat)]) (fun y => y < 256) (fun n cs x h _ => by
    obtain ⟨y, hy, _, wy⟩ := DataW.trod_int Try.underlying5 h
    have b := bounds_u8 wy
    obtain ⟨y, rfl⟩ := Int.eq_ofNat_of_zero_le b.1
    exact ⟨y, hy, by omega⟩) hf hz
  refine ⟨a, len, cap, l, hcs, hl, by omega, fun y hy => hok y hy, ?_⟩
  rcases hcell with h0 | ⟨ad, rfl, hc⟩
  · exact .inl h0
  · by_cases h0 : len = 0
    · exact .inl h0
    · obtain ⟨b, off, e, hb, _⟩ := cells_at (hc 0 (by omega)) (by omega)
      rw [Nat.zero_mul] at e
      obtain ⟨b', off', spot⟩ := ad
      have e' : (⟨b', off', spot⟩ : Addr) = ⟨b, off, none⟩ := by simpa [Addr.add] using e
      cases e'
      refine .inr ⟨b, off, rfl, hb, fun i hi => ?_⟩
      obtain ⟨b2, off2, e2, _, c2⟩ := cells_at (hc i hi) (by omega)
      rw [add_lit] at e2
      cases e2
      have := c2 0 (by omega)
      simpa using this
structure RowLen where
  a : Option Addr
  len : Nat
  cap : Nat
theorem open_lr {fuel : Nat} {cs : List Value} {x : DataW H × List MemPlace} (hf : DataW.trod enc Try.prog w 0 (fun _ => true) true fuel 25 cs = some x) (hz : ∀ m ∈ x.1.weights Try.prog 25, m ≤ 140737488351232) :
    ∃ a len cap l, cs = [.slice a len cap] ∧ Lr w a len l ∧ len ≤ cap ∧ cap ≤ maxLen ∧ (a = none → cap = 0) ∧ len ≤ 8796093022208 := by
  obtain ⟨a, len, cap, l, hcs, hl, hlc, hcm, hcb, hnil, hok, hcell⟩ := open_list (⟨none, 0, 0⟩ : RowLen) Try.underlying25 cellsIs bytesIs (fun y => [Value.slice y.a y.len y.cap]) (fun y => y.len ≤ y.cap ∧ y.cap ≤ maxLen ∧ (y.a = none → y.cap = 0)) (fun n cs x h hz => by
    obtain ⟨a, len, cap, l, hcs, _, h1, h2, h3, _⟩ := open_zr h hz
    exact ⟨⟨a, len, cap⟩, hcs, h1, h2, h3⟩) hf hz
  refine ⟨a, len, cap, l.map (·.len), hcs, ⟨by rw [List.length_map]; exact hl, by omega, ?_⟩, hlc, hcm, hnil, by omega⟩
  rcases hcell with h0 | ⟨ad, rfl, hc⟩
  · exact .inl h0
  · by_cases h0 : len = 0
    · exact .inl h0
    · obtain ⟨b, off, e, hb, _⟩ := cells_at (hc 0 (by omega)) (by omega)
      rw [Nat.zero_mul] at e
      obtain ⟨b', off', spot⟩ := ad
      have e' : (⟨b', off', spot⟩ : Addr) = ⟨b, off, none⟩ := by simpa [Addr.add] using e
      cases e'
      refine .inr ⟨b, off, rfl, hb, fun i hi => ?_⟩
      obtain ⟨b2, off2, e2, _, c2⟩ := cells_at (hc i hi) (by omega)
      rw [add_lit] at e2
      cases e2
      have h1 := c2 0 (by omega)
      have hg : (l.map (·.len)).getD i 0 = (l.getD i ⟨none, 0, 0⟩).len := by
        rw [List.getD_eq_getElem?_getD, List.getD_eq_getElem?_getD, List.getElem?_map, List.getElem?_eq_getElem (by omega)]
        rfl
      have hm : l.getD i ⟨none, 0, 0⟩ ∈ l := by
        rw [List.getD_eq_getElem?_getD, List.getElem?_eq_getElem (by omega)]
        exact List.getElem_mem _
      have ho := hok _ hm
      rw [hg]
      exact ⟨(l.getD i ⟨none, 0, 0⟩).a, (l.getD i ⟨none, 0, 0⟩).cap, by simpa using h1, ho⟩
end
theorem open_bs {H : Type} {enc : TypeId × Value → H} {w : World} {b0 : Nat} {v : Value} {d : DataW H} {q : List MemPlace}
    (hv : Value.okWide Try.prog w .any b0 38 v) (h : DataW.Trod enc Try.prog w 0 (fun _ => true) true 38 v d q) (hz : ∀ m ∈ d.weights Try.prog 38, m ≤ 140737488351232) :
    ∃ a len cap l, v = .slice a len cap ∧ Octs w a len l := by
  obtain ⟨a, len, cap, rfl⟩ := okWide_slice Try.underlying38 hv
  obtain ⟨fuel, hf⟩ := h
  obtain ⟨a', len', cap', l, hcs, ho⟩ := open_bs0 hf hz
  simp [Value.cells] at hcs
  obtain ⟨rfl, rfl, rfl⟩ := hcs
  exact ⟨a, len, cap, l, rfl, ho⟩
theorem array11 {α : Type} {cs : List α} (h : cs.length = 11) : ∃ c0 c1 c2 c3 c4 c5 c6 c7 c8 c9 c10, cs = [c0, c1, c2, c3, c4, c5, c6, c7, c8, c9, c10] := by
  match cs, h with
  | [c0, c1, c2, c3, c4, c5, c6, c7, c8, c9, c10], _ => exact ⟨c0, c1, c2, c3, c4, c5, c6, c7, c8, c9, c10, rfl⟩
set_option maxHeartbeats 1000000 in
theorem open_planN {H : Type} {enc : TypeId × Value → H} {w : World} {b0 : Nat} {v : Value} {d : DataW H} {q : List MemPlace}
    (hv : Value.okWide Try.prog w .any b0 27 v) (h : DataW.Trod enc Try.prog w 0 (fun _ => true) true 27 v d q) (hz : ∀ m ∈ d.weights Try.prog 27, m ≤ 140737488351232) :
    ∃ p es ws ns, v = PV.val p ∧ Pl w p es ws ns ∧ (p.ea = none → p.ec = 0) ∧ (p.wa = none → p.wc = 0) ∧ (p.na = none → p.nc = 0) := by
  obtain ⟨cs, rfl, hsz⟩ := okWide_struct Try.underlying27 hv
  obtain ⟨l⟩ := cs
  obtain ⟨c0, c1, c2, c3, c4, c5, c6, c7, c8, c9, c10, rfl⟩ := array11 (cs := l) (hsz.trans cellsP)
  obtain ⟨fuel, hf⟩ := h
  obtain ⟨xs, n, _, hx, _, hlen, hfl⟩ := DataW.trod_struct Try.underlying27 hf
  obtain ⟨y0, y1, y2, y3, y4, y5, y6, y7, y8, y9, y10, rfl⟩ := array11 (show xs.length = 11 from hlen)
  have t0 := hfl 0 _ rfl
  have t1 := hfl 1 _ rfl
  have t2 := hfl 2 _ rfl
  have t3 := hfl 3 _ rfl
  have t4 := hfl 4 _ rfl
  have t5 := hfl 5 _ rfl
  have t6 := hfl 6 _ rfl
  have t7 := hfl 7 _ rfl
  have t8 := hfl 8 _ rfl
  have t9 := hfl 9 _ rfl
  have t10 := hfl 10 _ rfl
  simp [Value.cells, cellsInt, cellsU16, cellsIs, cellsEs, cellsNs] at t0 t1 t2 t3 t4 t5 t6 t7 t8 t9 t10
  simp only [Prod.mk.injEq] at hx
  have hd := hx.1
  have wz : ∀ (j : Nat) (t : TypeId) (e : DataW H), ([3, 22, 3, 3, 3, 3, 3, 3, 23, 24, 25] : List TypeId)[j]? = some t → ([y0.1, y1.1, y2.1, y3.1, y4.1, y5.1, y6.1, y7.1, y8.1, y9.1, y10.1] : List (DataW H))[j]? = some e → ∀ m ∈ e.weights Try.prog t, m ≤ 140737488351232 := by
    intro j t e ht he m hm
    refine hz m ?_
    rw [hd, DataW.weights, Try.underlying27]
    exact DataW.weights_mem_each (j := j) (t := t) (d := e) ht he m hm
  obtain ⟨a0, e0, _, w0⟩ := DataW.trod_int Try.underlying3 t0
  obtain ⟨a2, e2, _, w2⟩ := DataW.trod_int Try.underlying3 t2
  obtain ⟨a3, e3, _, w3⟩ := DataW.trod_int Try.underlying3 t3
  obtain ⟨a4, e4, _, w4⟩ := DataW.trod_int Try.underlying3 t4
  obtain ⟨a5, e5, _, w5⟩ := DataW.trod_int Try.underlying3 t5
  obtain ⟨a6, e6, _, w6⟩ := DataW.trod_int Try.underlying3 t6
  obtain ⟨a7, e7, _, w7⟩ := DataW.trod_int Try.underlying3 t7
  obtain ⟨a9, e9, _, w9⟩ := DataW.trod_int Try.underlying24 t9
  obtain ⟨ea, en, ec, es, e1, hE, hE1, hE2, hE3, hE4, hE5⟩ := open_pr t1 (wz 1 _ _ rfl rfl)
  obtain ⟨wa, wn, wc, ws, e8, hW, hW1, hW2, hW3, hW4, hW5⟩ := open_zr t8 (wz 8 _ _ rfl rfl)
  obtain ⟨na, nn, nc, ns, e10, hN, hN1, hN2, hN3, hN4⟩ := open_lr t10 (wz 10 _ _ rfl rfl)
  simp only [List.cons.injEq, and_true] at e0 e1 e2 e3 e4 e5 e6 e7 e8 e9 e10
  subst e0 e1 e2 e3 e4 e5 e6 e7 e8 e9 e10
  have i0 := bounds_i64 w0
  have i2 := bounds_i64 w2
  have i3 := bounds_i64 w3
  have i4 := bounds_i64 w4
  have i5 := bounds_i64 w5
  have i6 := bounds_i64 w6
  have i7 := bounds_i64 w7
  exact ⟨⟨a0, a2, a3, a4, a5, a6, a7, a9, ea, en, ec, wa, wn, wc, na, nn, nc⟩, es, ws, ns, rfl, ⟨hE, hW, hN, hE4, hW4, hN4, ⟨hE1, hE2⟩, ⟨hW1, hW2⟩, ⟨hN1, hN2⟩, hE5, hW5, ⟨i0.1, i0.2⟩, ⟨i2.1, i2.2⟩, ⟨i3.1, i3.2⟩, ⟨i4.1, i4.2⟩, ⟨i5.1, i5.2⟩, ⟨i6.1, i6.2⟩, i7.1, i7.2⟩, hE3, hW3, hN3⟩
theorem open_plan {H : Type} {enc : TypeId × Value → H} {w : World} {b0 : Nat} {v : Value} {d : DataW H} {q : List MemPlace}
    (hv : Value.okWide Try.prog w .any b0 27 v) (h : DataW.Trod enc Try.prog w 0 (fun _ => true) true 27 v d q) (hz : ∀ m ∈ d.weights Try.prog 27, m ≤ 140737488351232) :
    ∃ p es ws ns, v = PV.val p ∧ Pl w p es ws ns := by
  obtain ⟨p, es, ws, ns, h1, h2, _⟩ := open_planN hv h hz
  exact ⟨p, es, ws, ns, h1, h2⟩
theorem open_zs {H : Type} {enc : TypeId × Value → H} {w : World} {b0 : Nat} {v : Value} {d : DataW H} {q : List MemPlace}
    (hv : Value.okWide Try.prog w .any b0 23 v) (h : DataW.Trod enc Try.prog w 0 (fun _ => true) true 23 v d q) (hz : ∀ m ∈ d.weights Try.prog 23, m ≤ 140737488351232) :
    ∃ a len cap l, v = .slice a len cap ∧ Zr w a len l ∧ len ≤ cap ∧ cap ≤ maxLen ∧ (a = none → cap = 0) ∧ len ≤ 17592186044416 ∧ ∀ y ∈ l, I64 y := by
  obtain ⟨a, len, cap, rfl⟩ := okWide_slice Try.underlying23 hv
  obtain ⟨fuel, hf⟩ := h
  obtain ⟨a', len', cap', l, hcs, ho⟩ := open_zr hf hz
  simp [Value.cells] at hcs
  obtain ⟨rfl, rfl, rfl⟩ := hcs
  exact ⟨a, len, cap, l, rfl, ho⟩
end Go.Proofs.Ytphaaolnmbadcaa
