/-
  Packets as arguments, and slices of packets that are handed in: what they lead to. Conditions: none.
-/
import Derived.Test.YtfldhjeeoaplfaaPkt
import Derived.Deep.Slices
import Derived.ChangeSame
namespace Go.Proofs.Ytfldhjeeoaplfaa
open Go.ChangeShapes Go.WideShapes Go.ChangeAt Go.RowKit
set_option linter.unusedVariables false

def Pks (w : World) (a : Option Addr) (len : Nat) (xs : List Pk) : Prop :=
  xs.length = len ∧ len ≤ 140737488351232 ∧ (len = 0 ∨ ∃ b off, a = some ⟨b, off, none⟩ ∧ ∀ j, j < len → PkAt w b (off + j * 4) (xs.getD j zpk))
theorem Pks.at {w : World} {a : Option Addr} {len : Nat} {os : List Pk} (h : Pks w a len os) {k : Nat} (hk : k < len) : ∃ b off v, a = some ⟨b, off, none⟩ ∧ PkAt w b (off + k * 4) v := by
  rcases h.2.2 with h0 | ⟨b, off, ha, hc⟩
  · omega
  · exact ⟨b, off, _, ha, hc k hk⟩
theorem Pks.below {w w' : World} {a : Option Addr} {len : Nat} {xs : List Pk} (h : Pks w a len xs) (k : Below w.heap.size w w') : Pks w' a len xs := by
  obtain ⟨h1, h2, h3⟩ := h
  refine ⟨h1, h2, ?_⟩
  rcases h3 with h3 | ⟨b, off, ha, hc⟩
  · exact .inl h3
  · exact .inr ⟨b, off, ha, fun j hj => (hc j hj).below k⟩
theorem array4 {α : Type} {cs : List α} (h : cs.length = 4) : ∃ c0 c1 c2 c3, cs = [c0, c1, c2, c3] := by
  match cs, h with
  | [c0, c1, c2, c3], _ => exact ⟨c0, c1, c2, c3, rfl⟩
theorem cells32 : Try.prog.cellsOf 25 = 1 := by kernel_rfl
theorem cellsI : Try.prog.cellsOf 3 = 1 := by kernel_rfl
theorem cellsPk : Try.prog.cellsOf 27 = 4 := by kernel_rfl
theorem bytesPk : Try.prog.bytesOf 27 = 32 := by kernel_rfl
theorem open_pk {H : Type} {enc : TypeId × Value → H} {w : World} {base : Nat} {n : Nat} {cs : List Value} {x : DataW H × List MemPlace}
    (h : DataW.trod enc Try.prog w base (fun _ => true) true n 27 cs = some x) :
    ∃ v : Pk, cs = [.int .i64 v.s, .int .i64 v.d, .int .i64 v.l, .int .u32 v.b] := by
  obtain ⟨xs, m, _, hx, hl, hlen, hfl⟩ := DataW.trod_struct Try.underlying27 h
  obtain ⟨y0, y1, y2, y3, rfl⟩ := array4 (show xs.length = 4 from hlen)
  obtain ⟨c0, c1, c2, c3, rfl⟩ := array4 (hl.trans cellsPk)
  have t0 := hfl 0 _ rfl
  have t1 := hfl 1 _ rfl
  have t2 := hfl 2 _ rfl
  have t3 := hfl 3 _ rfl
  simp [cellsI, cells32] at t0 t1 t2 t3
  obtain ⟨a0, e0, rfl, w0⟩ := DataW.trod_int Try.underlying3 t0
  obtain ⟨a1, e1, rfl, w1⟩ := DataW.trod_int Try.underlying3 t1
  obtain ⟨a2, e2, rfl, w2⟩ := DataW.trod_int Try.underlying3 t2
  obtain ⟨a3, e3, rfl, w3⟩ := DataW.trod_int Try.underlying25 t3
  simp only [List.cons.injEq, and_true] at e0 e1 e2 e3
  subst e0 e1 e2 e3
  exact ⟨⟨a0, a1, a2, a3⟩, rfl⟩
theorem add_lit (b off j : Nat) : (⟨b, off, none⟩ : Addr).add j = ⟨b, off + j, none⟩ := by
  unfold Addr.add; split
  · rename_i h; rw [h]; rfl
  · rfl
set_option maxRecDepth 100000 in
theorem open_pks {H : Type} {enc : TypeId × Value → H} {w : World} {b0 : Nat} {v : Value} {d : DataW H} {p : List MemPlace}
    (hv : Value.okWide Try.prog w .any b0 31 v) (h : DataW.Trod enc Try.prog w 0 (fun _ => true) true 31 v d p) (hz : ∀ m ∈ d.weights Try.prog 31, m ≤ 140737488351232) :
    ∃ a len cap os, v = .slice a len cap ∧ Pks w a len os ∧ (a = none → len = 0 ∧ cap = 0) ∧ len ≤ cap ∧ cap ≤ 140737488351232 := by
  obtain ⟨a, len, cap, rfl⟩ := okWide_slice Try.underlying31 hv
  obtain ⟨fuel, hf⟩ := h
  rcases Deep.open_slice Try.underlying31 hf with ⟨hcs, _⟩ | ⟨ad, ln, cp, m, n, D, Pl, hcs, _, hl, hm, hmm, hx, hel⟩
  · simp [Value.cells] at hcs
    obtain ⟨rfl, rfl, rfl⟩ := hcs
    exact ⟨none, 0, 0, [], rfl, ⟨rfl, by simp, .inl rfl⟩, fun _ => ⟨rfl, rfl⟩, Nat.le_refl _, by simp⟩
  · simp [Value.cells] at hcs
    obtain ⟨rfl, rfl, rfl⟩ := hcs
    simp only [if_true] at hmm
    simp only [Prod.mk.injEq] at hx
    obtain ⟨hd, _⟩ := hx
    have hcap : cap * 32 ≤ 140737488351232 := by
      refine hz _ ?_
      rw [hd, DataW.weights, Try.underlying31]
      simp only [List.length_map, List.length_range, bytesPk]
      rw [show len + (m - len) = cap by omega]
      exact List.mem_cons_self
    have hel2 : ∀ j, j < len → ∃ x : Pk, w.cells? 0 (ad.add (j * 4)) 4 = some [.int .i64 x.s, .int .i64 x.d, .int .i64 x.l, .int .u32 x.b] := by
      intro j hj
      obtain ⟨cs', h1, h2⟩ := hel j (by omega)
      obtain ⟨x, rfl⟩ := open_pk h2
      rw [cellsPk] at h1
      exact ⟨x, h1⟩
    have inh : Inhabited Pk := ⟨zpk⟩
    obtain ⟨f, hf2⟩ := Deep.choose_lt hel2
    refine ⟨some ad, len, cap, (List.range len).map f, rfl, ⟨by simp, by omega, ?_⟩, (fun e => by cases e), hl, by omega⟩
    by_cases h0 : len = 0
    · exact .inl h0
    · obtain ⟨b, off, spot⟩ := ad
      have c0 := (World.cells?_some (hf2 0 (by omega))).2.2 0 (by omega)
      have hs : spot = none := by
        have := World.cell?_spot (c0.trans rfl)
        simpa [Addr.add] using this
      subst hs
      refine .inr ⟨b, off, rfl, fun j hj => ?_⟩
      have hg : ((List.range len).map f).getD j zpk = f j := by simp [List.getD_eq_getElem?_getD, hj]
      rw [hg]
      have cc := (World.cells?_some (hf2 j hj)).2.2
      rw [add_lit] at cc
      have g : ∀ i, i < 4 → w.cell? ⟨b, off + j * 4 + i, none⟩ = [Value.int .i64 (f j).s, .int .i64 (f j).d, .int .i64 (f j).l, .int .u32 (f j).b][i]? := fun i hi => by rw [← add_lit]; exact cc i hi
      exact ⟨g 0 (by omega), g 1 (by omega), g 2 (by omega), g 3 (by omega)⟩
def Us (w : World) (a : Option Addr) (len : Nat) (us : List Int) : Prop :=
  us.length = len ∧ len ≤ 140737488351232 ∧ (len = 0 ∨ ∃ b off, a = some ⟨b, off, none⟩ ∧ ∀ j, j < len → w.cell? ⟨b, off + j, none⟩ = some (.int .u32 (us.getD j 0)))
theorem Us.at {w : World} {a : Option Addr} {len : Nat} {us : List Int} (h : Us w a len us) {k : Nat} (hk : k < len) : ∃ b off, a = some ⟨b, off, none⟩ ∧ w.cell? ⟨b, off + k, none⟩ = some (.int .u32 (us.getD k 0)) := by
  rcases h.2.2 with h0 | ⟨b, off, ha, hc⟩
  · omega
  · exact ⟨b, off, ha, hc k hk⟩
theorem bytes32 : Try.prog.bytesOf 25 = 4 := by kernel_rfl
set_option maxRecDepth 100000 in
theorem open_us {H : Type} {enc : TypeId × Value → H} {w : World} {b0 : Nat} {v : Value} {d : DataW H} {p : List MemPlace}
    (hv : Value.okWide Try.prog w .any b0 50 v) (h : DataW.Trod enc Try.prog w 0 (fun _ => true) true 50 v d p) (hz : ∀ m ∈ d.weights Try.prog 50, m ≤ 140737488351232) :
    ∃ a len cap us, v = .slice a len cap ∧ Us w a len us ∧ (a = none → len = 0 ∧ cap = 0) ∧ len ≤ cap ∧ cap ≤ 140737488351232 := by
  obtain ⟨a, len, cap, rfl⟩ := okWide_slice Try.underlying50 hv
  obtain ⟨fuel, hf⟩ := h
  rcases Deep.open_slice Try.underlying50 hf with ⟨hcs, _⟩ | ⟨ad, ln, cp, m, n, D, Pl, hcs, _, hl, hm, hmm, hx, hel⟩
  · simp [Value.cells] at hcs
    obtain ⟨rfl, rfl, rfl⟩ := hcs
    exact ⟨none, 0, 0, [], rfl, ⟨rfl, by simp, .inl rfl⟩, fun _ => ⟨rfl, rfl⟩, Nat.le_refl _, by simp⟩
  · simp [Value.cells] at hcs
    obtain ⟨rfl, rfl, rfl⟩ := hcs
    simp only [if_true] at hmm
    simp only [Prod.mk.injEq] at hx
    obtain ⟨hd, _⟩ := hx
    have hcap : cap * 4 ≤ 140737488351232 := by
      refine hz _ ?_
      rw [hd, DataW.weights, Try.underlying50]
      simp only [List.length_map, List.length_range, bytes32]
      rw [show len + (m - len) = cap by omega]
      exact List.mem_cons_self
    have hel2 : ∀ j, j < len → ∃ x : Int, w.cells? 0 (ad.add (j * 1)) 1 = some [.int .u32 x] := by
      intro j hj
      obtain ⟨cs', h1, h2⟩ := hel j (by omega)
      obtain ⟨x, rfl, _, _⟩ := DataW.trod_int Try.underlying25 h2
      rw [cells32] at h1
      exact ⟨x, h1⟩
    obtain ⟨f, hf2⟩ := Deep.choose_lt hel2
    refine ⟨some ad, len, cap, (List.range len).map f, rfl, ⟨by simp, by omega, ?_⟩, (fun e => by cases e), hl, by omega⟩
    by_cases h0 : len = 0
    · exact .inl h0
    · obtain ⟨b, off, spot⟩ := ad
      have c0 := (World.cells?_some (hf2 0 (by omega))).2.2 0 (by omega)
      have hs : spot = none := by
        have := World.cell?_spot (c0.trans rfl)
        simpa [Addr.add] using this
      subst hs
      refine .inr ⟨b, off, rfl, fun j hj => ?_⟩
      have hg : ((List.range len).map f).getD j 0 = f j := by simp [List.getD_eq_getElem?_getD, hj]
      rw [hg]
      have cc := (World.cells?_some (hf2 j hj)).2.2
      rw [add_lit] at cc
      have := cc 0 (by omega)
      rw [add_lit, Nat.mul_one] at this
      exact this
theorem Us.below {w w' : World} {a : Option Addr} {len : Nat} {us : List Int} (h : Us w a len us) (k : Below w.heap.size w w') : Us w' a len us := by
  obtain ⟨h1, h2, h3⟩ := h
  refine ⟨h1, h2, ?_⟩
  rcases h3 with h3 | ⟨b, off, ha, hc⟩
  · exact .inl h3
  · exact .inr ⟨b, off, ha, fun j hj => (k.cell (p := ⟨b, off + j, none⟩) (cell_lt (hc j hj))).trans (hc j hj)⟩
/-- what near makes of a number -/
def nv (b : Bool) (m : Int) (z : Int) : Int := if b then (if z < 0 then 0 else z) % m else z
theorem nv_neg {m z : Int} (h : z < 0) : nv true m z = 0 := by unfold nv; rw [if_pos rfl, if_pos h, Int.zero_emod]
theorem nv_pos {m z : Int} (h : 0 ≤ z) : nv true m z = z % m := by unfold nv; rw [if_pos rfl, if_neg (by omega)]
theorem nv_in {m z : Int} (hm : 0 < m) : 0 ≤ nv true m z ∧ nv true m z < m := by
  unfold nv
  rw [if_pos rfl]
  exact ⟨Int.emod_nonneg _ (by omega), Int.emod_lt_of_pos _ hm⟩
end Go.Proofs.Ytfldhjeeoaplfaa
