/-
  A slice of slices of masks, and a slice of numbers, that are handed in: what they lead to. Conditions: none.
-/
import Derived.Test.YtlojadodabddpaaDoorIslK
namespace Go.Proofs.YtlojadodabddpaaDoor
open Go.ChangeShapes Go.WideShapes Go.ChangeAt Go.RowKit
set_option linter.unusedVariables false

structure RowM where
  a : Option Addr
  len : Nat
  cap : Nat
  l : List Nat
def zrow : RowM := ⟨none, 0, 0, []⟩
def RowM.ok (w : World) (r : RowM) : Prop := Nums .u16 w r.a r.len r.l ∧ (∀ x ∈ r.l, x < 65536) ∧ r.len ≤ r.cap ∧ r.cap ≤ 140737488351232
theorem RowM.ok.sans {F : Nat → Prop} {w w' : World} {r : RowM} (h : r.ok w) (k : Sans F w w') (hn : ∀ b, b < w.heap.size → ¬ F b) : r.ok w' := by
  refine ⟨?_, h.2⟩
  obtain ⟨h1, h2, h4⟩ := h.1
  refine ⟨h1, h2, ?_⟩
  rcases h4 with h4 | ⟨b, off, ha, hlt, hc⟩
  · exact .inl h4
  · exact .inr ⟨b, off, ha, Nat.lt_of_lt_of_le hlt k.size, fun i hi => (k.cell (p := ⟨b, off + i, none⟩) hlt (hn b hlt)).trans (hc i hi)⟩
def Rws (w : World) (a : Option Addr) (len : Nat) (rs : List RowM) : Prop :=
  rs.length = len ∧ len ≤ 140737488351232 ∧ (len = 0 ∨ ∃ b off, a = some ⟨b, off, none⟩ ∧ ∀ j, j < len → w.cell? ⟨b, off + j, none⟩ = some (.slice (rs.getD j zrow).a (rs.getD j zrow).len (rs.getD j zrow).cap) ∧ (rs.getD j zrow).ok w)
theorem Rws.below {w w' : World} {a : Option Addr} {len : Nat} {rs : List RowM} (h : Rws w a len rs) (k : Below w.heap.size w w') : Rws w' a len rs :=
  ⟨h.1, h.2.1, h.2.2.imp id fun ⟨b, off, ha, hc⟩ => ⟨b, off, ha, fun j hj => ⟨(k.cell (p := ⟨b, off + j, none⟩) (cell_lt (hc j hj).1)).trans (hc j hj).1, (hc j hj).2.sans (F := fun _ => False) (Sans.of_below k) (fun _ _ e => e)⟩⟩⟩
theorem Rws.at {w : World} {a : Option Addr} {len : Nat} {rs : List RowM} (h : Rws w a len rs) {j : Nat} (hj : j < len) : ∃ b off, a = some ⟨b, off, none⟩ ∧ w.cell? ⟨b, off + j, none⟩ = some (.slice (rs.getD j zrow).a (rs.getD j zrow).len (rs.getD j zrow).cap) ∧ (rs.getD j zrow).ok w := by
  rcases h.2.2 with h0 | ⟨b, off, ha, hc⟩
  · omega
  · exact ⟨b, off, ha, hc j hj⟩
theorem cellsRow : Tryd.prog.cellsOf 28 = 1 := by kernel_rfl
theorem cellsInt : Tryd.prog.cellsOf 3 = 1 := by kernel_rfl
theorem bytesRow : Tryd.prog.bytesOf 28 = 24 := by kernel_rfl
theorem bytesInt : Tryd.prog.bytesOf 3 = 8 := by kernel_rfl
theorem open_row1 {H : Type} {enc : TypeId × Value → H} {w : World} {fuel : Nat} {cs : List Value} {x : DataW H × List MemPlace}
    (hf : DataW.trod enc Tryd.prog w 0 (fun _ => true) true fuel 28 cs = some x) (hz : ∀ m ∈ x.1.weights Tryd.prog 28, m ≤ 140737488351232) :
    ∃ r : RowM, cs = [.slice r.a r.len r.cap] ∧ r.ok w := by
  obtain ⟨d, pl⟩ := x
  rcases Deep.open_slice Tryd.underlying28 hf with ⟨hcs, _⟩ | ⟨ad, len, cap, m, n, D, Pl, hcs, _, hl, hm, hmm, hx, hel⟩
  · exact ⟨⟨none, 0, 0, []⟩, hcs, Nums.nil, by simp, Nat.le_refl _, by simp⟩
  · simp only [if_true] at hmm
    simp only [Prod.mk.injEq] at hx
    obtain ⟨hd, _⟩ := hx
    have hcap : cap * 2 ≤ 140737488351232 := by
      refine hz _ ?_
      rw [hd, DataW.weights, Tryd.underlying28]
      simp only [List.length_map, List.length_range, bytes16]
      rw [show len + (m - len) = cap by omega]
      exact List.mem_cons_self
    have hel2 : ∀ j, j < len → ∃ x : Nat, w.cells? 0 (ad.add (j * 1)) 1 = some [.int .u16 (x : Nat)] ∧ x < 65536 := by
      intro j hj
      obtain ⟨cs', h1, h2⟩ := hel j (by omega)
      obtain ⟨x, rfl, _, wx⟩ := DataW.trod_int Tryd.underlying29 h2
      rw [cells16] at h1
      have b := bounds_u16 wx
      obtain ⟨x, rfl⟩ := Int.eq_ofNat_of_zero_le b.1
      exact ⟨x, h1, by omega⟩
    obtain ⟨f, hf2⟩ := Deep.choose_lt hel2
    refine ⟨⟨some ad, len, cap, (List.range len).map f⟩, hcs, ⟨by simp, by show len ≤ maxLen; unfold maxLen; omega, ?_⟩, ?_, hl, by show cap ≤ _; omega⟩
    · by_cases h0 : len = 0
      · exact .inl h0
      · obtain ⟨b, off, spot⟩ := ad
        have c0 := (World.cells?_some (hf2 0 (by omega)).1).2.2 0 (by omega)
        have hs : spot = none := by
          have := World.cell?_spot (c0.trans rfl)
          simpa [Addr.add] using this
        subst hs
        have hall : ∀ j, j < len → w.cell? ⟨b, off + j, none⟩ = some (.int .u16 (((List.range len).map f).getD j 0 : Nat)) := by
          intro j hj
          have hg : ((List.range len).map f).getD j 0 = f j := by simp [List.getD_eq_getElem?_getD, hj]
          rw [hg]
          have cc := (World.cells?_some (hf2 j hj).1).2.2 0 (by omega)
          rw [add_lit] at cc
          simpa [Addr.add] using cc
        exact .inr ⟨b, off, rfl, cell_lt (hall 0 (by omega)), hall⟩
    · intro x hx
      obtain ⟨j, hj, rfl⟩ := List.mem_map.1 hx
      exact (hf2 j (List.mem_range.1 hj)).2
theorem weights_all {H : Type} {e : TypeId} {n : Nat} {D : Nat → DataW H} {j m : Nat} (hj : j < n) (hm : m ∈ (D j).weights Tryd.prog e) : m ∈ DataW.weightsAll Tryd.prog e ((List.range n).map D) := by
  have g : ∀ (l : List (DataW H)) (d : DataW H), d ∈ l → m ∈ d.weights Tryd.prog e → m ∈ DataW.weightsAll Tryd.prog e l := by
    intro l
    induction l with
    | nil => intro d hd; cases hd
    | cons x r ih =>
      intro d hd hm
      rw [DataW.weightsAll, List.mem_append]
      rcases List.mem_cons.1 hd with rfl | hd
      · exact .inl hm
      · exact .inr (ih d hd hm)
  exact g _ _ (List.mem_map.2 ⟨j, List.mem_range.2 hj, rfl⟩) hm
theorem open_mats {H : Type} {enc : TypeId × Value → H} {w : World} {b0 : Nat} {v : Value} {d : DataW H} {p : List MemPlace}
    (hv : Value.okWide Tryd.prog w .any b0 35 v) (h : DataW.Trod enc Tryd.prog w 0 (fun _ => true) true 35 v d p) (hz : ∀ m ∈ d.weights Tryd.prog 35, m ≤ 140737488351232) :
    ∃ a len cap rs, v = .slice a len cap ∧ Rws w a len rs := by
  obtain ⟨a, len, cap, rfl⟩ := okWide_slice Tryd.underlying35 hv
  obtain ⟨fuel, hf⟩ := h
  rcases Deep.open_slice Tryd.underlying35 hf with ⟨hcs, _⟩ | ⟨ad, ln, cp, m, n, D, Pl, hcs, _, hl, hm, hmm, hx, hel⟩
  · simp [Value.cells] at hcs
    obtain ⟨rfl, rfl, rfl⟩ := hcs
    exact ⟨none, 0, 0, [], rfl, rfl, by simp, .inl rfl⟩
  · simp [Value.cells] at hcs
    obtain ⟨rfl, rfl, rfl⟩ := hcs
    simp only [if_true] at hmm
    simp only [Prod.mk.injEq] at hx
    obtain ⟨hd, _⟩ := hx
    have hcap : cap * 24 ≤ 140737488351232 := by
      refine hz _ ?_
      rw [hd, DataW.weights, Tryd.underlying35]
      simp only [List.length_map, List.length_range, bytesRow]
      rw [show len + (m - len) = cap by omega]
      exact List.mem_cons_self
    have hel2 : ∀ j, j < len → ∃ x : RowM, w.cells? 0 (ad.add (j * 1)) 1 = some [.slice x.a x.len x.cap] ∧ x.ok w := by
      intro j hj
      obtain ⟨cs', h1, h2⟩ := hel j (by omega)
      obtain ⟨x, rfl, hok⟩ := open_row1 h2 (fun q hq => hz q (by
        rw [hd, DataW.weights, Tryd.underlying35]
        exact List.mem_cons_of_mem _ (List.mem_append_left _ (weights_all hj hq))))
      rw [cellsRow] at h1
      exact ⟨x, h1, hok⟩
    have inh : Inhabited RowM := ⟨zrow⟩
    obtain ⟨f, hf2⟩ := Deep.choose_lt hel2
    refine ⟨some ad, len, cap, (List.range len).map f, rfl, by simp, by omega, ?_⟩
    by_cases h0 : len = 0
    · exact .inl h0
    · obtain ⟨b, off, spot⟩ := ad
      have c0 := (World.cells?_some (hf2 0 (by omega)).1).2.2 0 (by omega)
      have hs : spot = none := by
        have := World.cell?_spot (c0.trans rfl)
        simpa [Addr.add] using this
      subst hs
      refine .inr ⟨b, off, rfl, fun j hj => ?_⟩
      have hg : ((List.range len).map f).getD j zrow = f j := by simp [List.getD_eq_getElem?_getD, hj]
      rw [hg]
      obtain ⟨hc, hok⟩ := hf2 j hj
      have cc := (World.cells?_some hc).2.2 0 (by omega)
      rw [add_lit] at cc
      exact ⟨by simpa [Addr.add] using cc, hok⟩
/-- a slice of any numbers -/
def Zs (w : World) (a : Option Addr) (len : Nat) (zs : List Int) : Prop := zs.length = len ∧ len ≤ 140737488351232 ∧ Led w a len (fun i => zs.getD i 0) ∧ ∀ i, -9223372036854775808 ≤ zs.getD i 0 ∧ zs.getD i 0 ≤ 9223372036854775807
theorem Zs.below {w w' : World} {a : Option Addr} {len : Nat} {zs : List Int} (h : Zs w a len zs) (k : Below w.heap.size w w') : Zs w' a len zs := ⟨h.1, h.2.1, h.2.2.1.below k, h.2.2.2⟩
theorem open_zs {H : Type} {enc : TypeId × Value → H} {w : World} {b0 : Nat} {v : Value} {d : DataW H} {p : List MemPlace}
    (hv : Value.okWide Tryd.prog w .any b0 25 v) (h : DataW.Trod enc Tryd.prog w 0 (fun _ => true) true 25 v d p) (hz : ∀ m ∈ d.weights Tryd.prog 25, m ≤ 140737488351232) :
    ∃ a len cap zs, v = .slice a len cap ∧ Zs w a len zs := by
  obtain ⟨a, len, cap, rfl⟩ := okWide_slice Tryd.underlying25 hv
  obtain ⟨fuel, hf⟩ := h
  rcases Deep.open_slice Tryd.underlying25 hf with ⟨hcs, _⟩ | ⟨ad, ln, cp, m, n, D, Pl, hcs, _, hl, hm, hmm, hx, hel⟩
  · simp [Value.cells] at hcs
    obtain ⟨rfl, rfl, rfl⟩ := hcs
    exact ⟨none, 0, 0, [], rfl, rfl, by simp, .inl rfl, fun i => by simp⟩
  · simp [Value.cells] at hcs
    obtain ⟨rfl, rfl, rfl⟩ := hcs
    simp only [if_true] at hmm
    simp only [Prod.mk.injEq] at hx
    obtain ⟨hd, _⟩ := hx
    have hcap : cap * 8 ≤ 140737488351232 := by
      refine hz _ ?_
      rw [hd, DataW.weights, Tryd.underlying25]
      simp only [List.length_map, List.length_range, bytesInt]
      rw [show len + (m - len) = cap by omega]
      exact List.mem_cons_self
    have hel2 : ∀ j, j < len → ∃ x : Int, w.cells? 0 (ad.add (j * 1)) 1 = some [.int .i64 x] ∧ -9223372036854775808 ≤ x ∧ x ≤ 9223372036854775807 := by
      intro j hj
      obtain ⟨cs', h1, h2⟩ := hel j (by omega)
      obtain ⟨x, rfl, _, wx⟩ := DataW.trod_int Tryd.underlying3 h2
      rw [cellsInt] at h1
      exact ⟨x, h1, bounds_i64 wx⟩
    obtain ⟨f, hf2⟩ := Deep.choose_lt hel2
    have hgd : ∀ j, j < len → ((List.range len).map f).getD j 0 = f j := fun j hj => by simp [List.getD_eq_getElem?_getD, hj]
    refine ⟨some ad, len, cap, (List.range len).map f, rfl, by simp, by omega, ?_, fun i => ?_⟩
    · by_cases h0 : len = 0
      · exact .inl h0
      · obtain ⟨b, off, spot⟩ := ad
        have c0 := (World.cells?_some (hf2 0 (by omega)).1).2.2 0 (by omega)
        have hs : spot = none := by
          have := World.cell?_spot (c0.trans rfl)
          simpa [Addr.add] using this
        subst hs
        refine .inr ⟨b, off, rfl, fun j hj => ?_⟩
        have cc := (World.cells?_some (hf2 j hj).1).2.2 0 (by omega)
        rw [add_lit] at cc
        show _ = some (Value.int .i64 (((List.range len).map f).getD j 0))
        rw [hgd j hj]
        simpa [Addr.add] using cc
    · rcases Nat.lt_or_ge i len with hi | hi
      · rw [hgd i hi]; exact (hf2 i hi).2
      · rw [List.getD_eq_getElem?_getD, List.getElem?_eq_none (by simpa using hi)]; simp
end Go.Proofs.YtlojadodabddpaaDoor
