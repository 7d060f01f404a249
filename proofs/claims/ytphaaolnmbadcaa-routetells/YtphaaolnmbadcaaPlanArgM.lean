/-
  A plan as an argument that came in, with the ways that it has. Conditions: none.
-/
import Derived.Test.YtphaaolnmbadcaaPlanArg
import Derived.Test.YtphaaolnmbadcaaRefRouteA
namespace Go.Proofs.Ytphaaolnmbadcaa
open Go.ChangeShapes Go.WideShapes Go.ChangeAt Go.RowKit
set_option linter.unusedVariables false
set_option maxRecDepth 100000

section
variable {H : Type} {enc : TypeId × Value → H} {w : World}
structure RowZ where
  a : Option Addr
  cap : Nat
  l : List Int
theorem open_mr {fuel : Nat} {cs : List Value} {x : DataW H × List MemPlace} (hf : DataW.trod enc Try.prog w 0 (fun _ => true) true fuel 25 cs = some x) (hz : ∀ m ∈ x.1.weights Try.prog 25, m ≤ 140737488351232) :
    ∃ a len cap l, cs = [.slice a len cap] ∧ Mr w a len l ∧ len ≤ cap ∧ cap ≤ maxLen ∧ (a = none → cap = 0) ∧ len ≤ 8796093022208 ∧ ∀ r ∈ l, ∀ y ∈ r, I64 y := by
  obtain ⟨a, len, cap, l, hcs, hl, hlc, hcm, hcb, hnil, hok, hcell⟩ := open_list (⟨none, 0, []⟩ : RowZ) Try.underlying25 cellsIs bytesIs (fun y => [Value.slice y.a y.l.length y.cap]) (fun y => (Zr w y.a y.l.length y.l ∧ y.l.length ≤ y.cap ∧ y.cap ≤ maxLen ∧ (y.a = none → y.cap = 0)) ∧ ∀ z ∈ y.l, I64 z) (fun n cs x h hz => by
    obtain ⟨a, len, cap, l, hcs, h0, h1, h2, h3, _, h5⟩ := open_zr h hz
    have hl := h0.1
    subst hl
    exact ⟨⟨a, cap, l⟩, hcs, ⟨h0, h1, h2, h3⟩, h5⟩) hf hz
  refine ⟨a, len, cap, l.map (·.l), hcs, ⟨by rw [List.length_map]; exact hl, by omega, ?_⟩, hlc, hcm, hnil, by omega, fun r hr => ?_⟩
  · rcases hcell with h0 | ⟨ad, rfl, hc⟩
    · exact .inl h0
    · by_cases h0 : len = 0
      · exact .inl h0
      · obtain ⟨b, off, e, hb, _⟩ := cells_at (hc 0 (by omega)) (by omega)
        rw [Nat.zero_mul] at e
        obtain ⟨b', off', spot⟩ := ad
        have e' : (⟨b', off', spot⟩ : Addr) = ⟨b, off, none⟩ := by simpa [Addr.add] using e
        cases e'
        refine .inr ⟨b, off, rfl, hb, fun i hi => ?_⟩
        obtain ⟨b2, off2, e2, _, c2⟩ := cells_at (hc i hi) (by omega)
        rw [add_lit] at e2
        cases e2
        have h1 := c2 0 (by omega)
        have hg : (l.map (·.l)).getD i [] = (l.getD i ⟨none, 0, []⟩).l := by
          rw [List.getD_eq_getElem?_getD, List.getD_eq_getElem?_getD, List.getElem?_map, List.getElem?_eq_getElem (by omega)]
          rfl
        have hm : l.getD i ⟨none, 0, []⟩ ∈ l := by
          rw [List.getD_eq_getElem?_getD, List.getElem?_eq_getElem (by omega)]
          exact List.getElem_mem _
        obtain ⟨ho, _⟩ := hok _ hm
        rw [hg]
        exact ⟨_, by simpa using h1, _, _, rfl, ho⟩
  · obtain ⟨y, hy, rfl⟩ := List.mem_map.1 hr
    exact (hok y hy).2
end
set_option maxHeartbeats 1000000 in
theorem open_planM {H : Type} {enc : TypeId × Value → H} {w : World} {b0 : Nat} {v : Value} {d : DataW H} {q : List MemPlace}
    (hv : Value.okWide Try.prog w .any b0 27 v) (h : DataW.Trod enc Try.prog w 0 (fun _ => true) true 27 v d q) (hz : ∀ m ∈ d.weights Try.prog 27, m ≤ 140737488351232) :
    ∃ p es ws rs, v = PV.val p ∧ PlN w p es ws rs ∧ (p.ea = none → p.ec = 0) ∧ (p.wa = none → p.wc = 0) ∧ (p.na = none → p.nc = 0) := by
  obtain ⟨cs, rfl, hsz⟩ := okWide_struct Try.underlying27 hv
  obtain ⟨l⟩ := cs
  obtain ⟨c0, c1, c2, c3, c4, c5, c6, c7, c8, c9, c10, rfl⟩ := array11 (cs := l) (hsz.trans cellsP)
  obtain ⟨fuel, hf⟩ := h
  obtain ⟨xs, n, _, hx, _, hlen, hfl⟩ := DataW.trod_struct Try.underlying27 hf
  obtain ⟨y0, y1, y2, y3, y4, y5, y6, y7, y8, y9, y10, rfl⟩ := array11 (show xs.length = 11 from hlen)
  have t0 := hfl 0 _ rfl
  have t1 := hfl 1 _ rfl
  have t2 := hfl 2 _ rfl
  have t3 := hfl 3 _ rfl
  have t4 := hfl 4 _ rfl
  have t5 := hfl 5 _ rfl
  have t6 := hfl 6 _ rfl
  have t7 := hfl 7 _ rfl
  have t8 := hfl 8 _ rfl
  have t9 := hfl 9 _ rfl
  have t10 := hfl 10 _ rfl
  simp [Value.cells, cellsInt, cellsU16, cellsIs, cellsEs, cellsNs] at t0 t1 t2 t3 t4 t5 t6 t7 t8 t9 t10
  simp only [Prod.mk.injEq] at hx
  have hd := hx.1
  have wz : ∀ (j : Nat) (t : TypeId) (e : DataW H), ([3, 22, 3, 3, 3, 3, 3, 3, 23, 24, 25] : List TypeId)[j]? = some t → ([y0.1, y1.1, y2.1, y3.1, y4.1, y5.1, y6.1, y7.1, y8.1, y9.1, y10.1] : List (DataW H))[j]? = some e → ∀ m ∈ e.weights Try.prog t, m ≤ 140737488351232 := by
    intro j t e ht he m hm
    refine hz m ?_
    rw [hd, DataW.weights, Try.underlying27]
    exact DataW.weights_mem_each (j := j) (t := t) (d := e) ht he m hm
  obtain ⟨a0, e0, _, w0⟩ := DataW.trod_int Try.underlying3 t0
  obtain ⟨a2, e2, _, w2⟩ := DataW.trod_int Try.underlying3 t2
  obtain ⟨a3, e3, _, w3⟩ := DataW.trod_int Try.underlying3 t3
  obtain ⟨a4, e4, _, w4⟩ := DataW.trod_int Try.underlying3 t4
  obtain ⟨a5, e5, _, w5⟩ := DataW.trod_int Try.underlying3 t5
  obtain ⟨a6, e6, _, w6⟩ := DataW.trod_int Try.underlying3 t6
  obtain ⟨a7, e7, _, w7⟩ := DataW.trod_int Try.underlying3 t7
  obtain ⟨a9, e9, _, w9⟩ := DataW.trod_int Try.underlying24 t9
  obtain ⟨ea, en, ec, es, e1, hE, hE1, hE2, hE3, hE4, hE5⟩ := open_pr t1 (wz 1 _ _ rfl rfl)
  obtain ⟨wa, wn, wc, ws, e8, hW, hW1, hW2, hW3, hW4, hW5⟩ := open_zr t8 (wz 8 _ _ rfl rfl)
  obtain ⟨na, nn, nc, rs, e10, hN, hN1, hN2, hN3, hN4, hN5⟩ := open_mr t10 (wz 10 _ _ rfl rfl)
  simp only [List.cons.injEq, and_true] at e0 e1 e2 e3 e4 e5 e6 e7 e8 e9 e10
  subst e0 e1 e2 e3 e4 e5 e6 e7 e8 e9 e10
  have i0 := bounds_i64 w0
  have i2 := bounds_i64 w2
  have i3 := bounds_i64 w3
  have i4 := bounds_i64 w4
  have i5 := bounds_i64 w5
  have i6 := bounds_i64 w6
  have i7 := bounds_i64 w7
  exact ⟨⟨a0, a2, a3, a4, a5, a6, a7, a9, ea, en, ec, wa, wn, wc, na, nn, nc⟩, es, ws, rs, rfl, ⟨⟨hE, hW, hN.lr, hE4, hW4, hN4, ⟨hE1, hE2⟩, ⟨hW1, hW2⟩, ⟨hN1, hN2⟩, hE5, hW5, ⟨i0.1, i0.2⟩, ⟨i2.1, i2.2⟩, ⟨i3.1, i3.2⟩, ⟨i4.1, i4.2⟩, ⟨i5.1, i5.2⟩, ⟨i6.1, i6.2⟩, i7.1, i7.2⟩, hN, hN5⟩, hE3, hW3, hN3⟩
end Go.Proofs.Ytphaaolnmbadcaa
