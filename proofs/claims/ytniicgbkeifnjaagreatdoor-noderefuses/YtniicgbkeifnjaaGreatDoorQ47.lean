/-
  Contracts and plain facts that the walks lean on (NodeArg, PlanArg, NodeSides). Conditions: none but those that each states.
-/
import Derived.Test.YtniicgbkeifnjaaGreatDoorQ46
import Derived.Deep.Fields
namespace Go.Proofs.YtniicgbkeifnjaaGreatDoor
open Go.ChangeShapes Go.WideShapes Go.ChangeAt Go.RowKit
set_option linter.unusedVariables false
set_option maxRecDepth 100000
theorem nat_u8 {a : Int} (h : (Lit.int .u8 a).wf = true) : ∃ m : Nat, a = (m : Nat) ∧ m < 256 := by
  have b := bounds_u8 h
  obtain ⟨m, rfl⟩ := Int.eq_ofNat_of_zero_le b.1
  exact ⟨m, rfl, by omega⟩
theorem nat_u16 {a : Int} (h : (Lit.int .u16 a).wf = true) : ∃ m : Nat, a = (m : Nat) ∧ m < 65536 := by
  have b := bounds_u16 h
  obtain ⟨m, rfl⟩ := Int.eq_ofNat_of_zero_le b.1
  exact ⟨m, rfl, by omega⟩
theorem open_pkv {H : Type} {enc : TypeId × Value → H} {w : World} {b0 : Nat} {v : Value} {d : DataW H} {q : List MemPlace}
    (hv : Value.okWide Tryz.prog w .any b0 25 v) (h : DataW.Trod enc Tryz.prog w 0 (fun _ => true) true 25 v d q) :
    ∃ x : Pk, v = .agg #[.int .i64 x.s, .int .i64 x.d, .int .i64 x.l, .int .u32 x.b] ∧ 0 ≤ x.b ∧ x.b < 4294967296 := by
  obtain ⟨cs, rfl, hsz⟩ := okWide_struct Tryz.underlying25 hv
  obtain ⟨l⟩ := cs
  obtain ⟨c0, c1, c2, c3, rfl⟩ := array4 (hsz.trans cellsPk)
  obtain ⟨fuel, hf⟩ := h
  obtain ⟨xs, n, _, hx, _, hlen, hfl⟩ := DataW.trod_struct Tryz.underlying25 hf
  obtain ⟨y0, y1, y2, y3, rfl⟩ := array4 (show xs.length = 4 from hlen)
  have t0 := hfl 0 _ rfl
  have t1 := hfl 1 _ rfl
  have t2 := hfl 2 _ rfl
  have t3 := hfl 3 _ rfl
  simp [Value.cells, cellsI, cells32] at t0 t1 t2 t3
  obtain ⟨a0, e0, _, w0⟩ := DataW.trod_int Tryz.underlying3 t0
  obtain ⟨a1, e1, _, w1⟩ := DataW.trod_int Tryz.underlying3 t1
  obtain ⟨a2, e2, _, w2⟩ := DataW.trod_int Tryz.underlying3 t2
  obtain ⟨a3, e3, _, w3⟩ := DataW.trod_int Tryz.underlying23 t3
  simp only [List.cons.injEq, and_true] at e0 e1 e2 e3
  subst e0 e1 e2 e3
  have i3 := bounds_u32 w3
  exact ⟨⟨a0, a1, a2, a3⟩, rfl, i3.1, by show a3 < _; omega⟩
set_option maxRecDepth 100000 in
theorem open_usb {H : Type} {enc : TypeId × Value → H} {w : World} {b0 : Nat} {v : Value} {d : DataW H} {p : List MemPlace}
    (hv : Value.okWide Tryz.prog w .any b0 83 v) (h : DataW.Trod enc Tryz.prog w 0 (fun _ => true) true 83 v d p) (hz : ∀ m ∈ d.weights Tryz.prog 83, m ≤ 140737488351232) :
    ∃ a len cap us, v = .slice a len cap ∧ Us w a len us ∧ ∀ x ∈ us, 0 ≤ x ∧ x < 4294967296 := by
  obtain ⟨a, len, cap, rfl⟩ := okWide_slice Tryz.underlying83 hv
  obtain ⟨fuel, hf⟩ := h
  rcases Deep.open_slice Tryz.underlying83 hf with ⟨hcs, _⟩ | ⟨ad, ln, cp, m, n, D, Pl, hcs, _, hl, hm, hmm, hx, hel⟩
  · simp [Value.cells] at hcs
    obtain ⟨rfl, rfl, rfl⟩ := hcs
    exact ⟨none, 0, 0, [], rfl, ⟨rfl, by simp, .inl rfl⟩, fun x hx => by cases hx⟩
  · simp [Value.cells] at hcs
    obtain ⟨rfl, rfl, rfl⟩ := hcs
    simp only [if_true] at hmm
    simp only [Prod.mk.injEq] at hx
    obtain ⟨hd, _⟩ := hx
    have hcap : cap * 4 ≤ 140737488351232 := by
      refine hz _ ?_
      rw [hd, DataW.weights, Tryz.underlying83]
      simp only [List.length_map, List.length_range, bytes32]
      rw [show len + (m - len) = cap by omega]
      exact List.mem_cons_self
    have hel2 : ∀ j, j < len → ∃ x : Int, w.cells? 0 (ad.add (j * 1)) 1 = some [.int .u32 x] ∧ 0 ≤ x ∧ x < 4294967296 := by
      intro j hj
      obtain ⟨cs', h1, h2⟩ := hel j (by omega)
      obtain ⟨x, rfl, _, w0⟩ := DataW.trod_int Tryz.underlying23 h2
      rw [cells32] at h1
      have b := bounds_u32 w0
      exact ⟨x, h1, b.1, by omega⟩
    obtain ⟨f, hf2⟩ := Deep.choose_lt hel2
    refine ⟨some ad, len, cap, (List.range len).map f, rfl, ⟨by simp, by omega, ?_⟩, fun x hx => ?_⟩
    · by_cases h0 : len = 0
      · exact .inl h0
      · obtain ⟨b, off, spot⟩ := ad
        have c0 := (World.cells?_some (hf2 0 (by omega)).1).2.2 0 (by omega)
        have hs : spot = none := by
          have := World.cell?_spot (c0.trans rfl)
          simpa [Addr.add] using this
        subst hs
        refine .inr ⟨b, off, rfl, fun j hj => ?_⟩
        have hg : ((List.range len).map f).getD j 0 = f j := by simp [List.getD_eq_getElem?_getD, hj]
        rw [hg]
        have cc := (World.cells?_some (hf2 j hj).1).2.2
        rw [padd_lit] at cc
        have := cc 0 (by omega)
        rw [padd_lit, Nat.mul_one] at this
        exact this
    · obtain ⟨j, hj, rfl⟩ := List.mem_map.1 hx
      exact (hf2 j (List.mem_range.1 hj)).2
end Go.Proofs.YtniicgbkeifnjaaGreatDoor
namespace Go.Proofs.YtniicgbkeifnjaaGreatDoor
open Go.ChangeShapes Go.WideShapes Go.ChangeAt Go.RowKit
set_option linter.unusedVariables false
set_option maxRecDepth 100000
set_option maxRecDepth 100000
theorem weights_all {H : Type} {e : TypeId} {n : Nat} {D : Nat → DataW H} {j m : Nat} (hj : j < n) (hm : m ∈ (D j).weights Tryz.prog e) : m ∈ DataW.weightsAll Tryz.prog e ((List.range n).map D) := by
  have g : ∀ (l : List (DataW H)) (d : DataW H), d ∈ l → m ∈ d.weights Tryz.prog e → m ∈ DataW.weightsAll Tryz.prog e l := by
    intro l
    induction l with
    | nil => intro d hd; cases hd
    | cons x r ih =>
      intro d hd hm
      rw [DataW.weightsAll, List.mem_append]
      rcases List.mem_cons.1 hd with rfl | hd
      · exact .inl hm
      · exact .inr (ih d hd hm)
  exact g _ _ (List.mem_map.2 ⟨j, List.mem_range.2 hj, rfl⟩) hm
theorem open_list {α H : Type} (dflt : α) {enc : TypeId × Value → H} {w : World} {t e : TypeId} {sz bytes fuel : Nat} {cs : List Value} {x : DataW H × List MemPlace} (ht : Tryz.prog.underlying t = some (.slice e)) (hc : Tryz.prog.cellsOf e = sz) (hby : Tryz.prog.bytesOf e = bytes) (F : α → List Value) (OK : α → Prop)
    (hel0 : ∀ (n : Nat) (cs : List Value) (x : DataW H × List MemPlace), DataW.trod enc Tryz.prog w 0 (fun _ => true) true n e cs = some x → (∀ m ∈ x.1.weights Tryz.prog e, m ≤ 140737488351232) → ∃ y : α, cs = F y ∧ OK y)
    (hf : DataW.trod enc Tryz.prog w 0 (fun _ => true) true fuel t cs = some x) (hz : ∀ m ∈ x.1.weights Tryz.prog t, m ≤ 140737488351232) :
    ∃ a len cap, ∃ l : List α, cs = [.slice a len cap] ∧ l.length = len ∧ len ≤ cap ∧ cap ≤ maxLen ∧ cap * bytes ≤ 140737488351232 ∧ (a = none → cap = 0) ∧ (∀ y ∈ l, OK y) ∧ (len = 0 ∨ ∃ ad, a = some ad ∧ ∀ j, j < len → w.cells? 0 (ad.add (j * sz)) sz = some (F (l.getD j dflt))) := by
  obtain ⟨d, pl⟩ := x
  rcases Deep.open_slice ht hf with ⟨hcs, _⟩ | ⟨ad, len, cap, m, n, D, Pl, hcs, _, hl, hm, hmm, hx, hel⟩
  · exact ⟨none, 0, 0, [], hcs, rfl, Nat.le_refl _, Nat.zero_le _, by omega, fun _ => rfl, by simp, .inl rfl⟩
  · simp only [if_true] at hmm
    simp only [Prod.mk.injEq] at hx
    obtain ⟨hd, _⟩ := hx
    have hcap : cap * bytes ≤ 140737488351232 := by
      refine hz _ ?_
      rw [hd, DataW.weights, ht]
      simp only [List.length_map, List.length_range, hby]
      rw [show len + (m - len) = cap by omega]
      exact List.mem_cons_self
    have hel2 : ∀ j, j < len → ∃ y : α, w.cells? 0 (ad.add (j * sz)) sz = some (F y) ∧ OK y := by
      intro j hj
      obtain ⟨cs', h1, h2⟩ := hel j (by omega)
      obtain ⟨y, rfl, hok⟩ := hel0 _ _ _ h2 (fun q hq => hz q (by
        rw [hd, DataW.weights, ht]
        exact List.mem_cons_of_mem _ (List.mem_append_left _ (weights_all hj hq))))
      rw [hc] at h1
      exact ⟨y, h1, hok⟩
    have inh : Inhabited α := ⟨dflt⟩
    obtain ⟨f, hf2⟩ := Deep.choose_lt hel2
    refine ⟨some ad, len, cap, (List.range len).map f, hcs, by simp, hl, hm, hcap, (fun e => by cases e), ?_, ?_⟩
    · intro y hy
      obtain ⟨j, hj, rfl⟩ := List.mem_map.1 hy
      exact (hf2 j (List.mem_range.1 hj)).2
    · refine .inr ⟨ad, rfl, fun j hj => ?_⟩
      have hg : ((List.range len).map f).getD j dflt = f j := by simp [List.getD_eq_getElem?_getD, hj]
      rw [hg]
      exact (hf2 j hj).1
theorem cells_at {w : World} {ad : Addr} {k : Nat} {l : List Value} (h : w.cells? 0 ad k = some l) (hk : 0 < k) : ∃ b off, ad = ⟨b, off, none⟩ ∧ b < w.heap.size ∧ ∀ i, i < k → w.cell? ⟨b, off + i, none⟩ = l[i]? := by
  obtain ⟨h1, h2, h3⟩ := World.cells?_some h
  obtain ⟨b, off, spot⟩ := ad
  have hl : l.length = k := by first | exact h1 | exact h2 | omega
  have c0 := h3 0 hk
  rw [List.getElem?_eq_getElem (by omega)] at c0
  have hs : spot = none := by
    have := World.cell?_spot c0
    simpa [Addr.add] using this
  subst hs
  have g : ∀ i, i < k → w.cell? ⟨b, off + i, none⟩ = l[i]? := fun i hi => by
    have := h3 i hi
    rw [add_lit] at this
    exact this
  refine ⟨b, off, rfl, ?_, g⟩
  have := g 0 hk
  rw [List.getElem?_eq_getElem (by omega)] at this
  exact cell_lt this
section
variable {H : Type} {enc : TypeId × Value → H} {w : World}
theorem cells8' : Tryz.prog.cellsOf 5 = 1 := by kernel_rfl
theorem bytes8' : Tryz.prog.bytesOf 5 = 1 := by kernel_rfl
theorem open_bs0 {fuel : Nat} {cs : List Value} {x : DataW H × List MemPlace} (hf : DataW.trod enc Tryz.prog w 0 (fun _ => true) true fuel 22 cs = some x) (hz : ∀ m ∈ x.1.weights Tryz.prog 22, m ≤ 140737488351232) :
    ∃ a len cap l, cs = [.slice a len cap] ∧ Octs w a len l := by
  obtain ⟨a, len, cap, l, hcs, hl, hlc, hcm, hcb, hnil, hok, hcell⟩ := open_list (0 : Nat) Tryz.underlying22 cells8' bytes8' (fun y => [Value.int .u8 (y : Nat)]) (fun y => y < 256) (fun n cs x h _ => by
    obtain ⟨y, hy, _, wy⟩ := DataW.trod_int Tryz.underlying5 h
    have b := bounds_u8 wy
    obtain ⟨y, rfl⟩ := Int.eq_ofNat_of_zero_le b.1
    exact ⟨y, hy, by omega⟩) hf hz
  refine ⟨a, len, cap, l, hcs, hl, by omega, fun y hy => hok y hy, ?_⟩
  rcases hcell with h0 | ⟨ad, rfl, hc⟩
  · exact .inl h0
  · by_cases h0 : len = 0
    · exact .inl h0
    · obtain ⟨b, off, e, hb, _⟩ := cells_at (hc 0 (by omega)) (by omega)
      rw [Nat.zero_mul] at e
      obtain ⟨b', off', spot⟩ := ad
      have e' : (⟨b', off', spot⟩ : Addr) = ⟨b, off, none⟩ := by simpa [Addr.add] using e
      cases e'
      refine .inr ⟨b, off, rfl, hb, fun i hi => ?_⟩
      obtain ⟨b2, off2, e2, _, c2⟩ := cells_at (hc i hi) (by omega)
      rw [add_lit] at e2
      cases e2
      have := c2 0 (by omega)
      simpa using this
end
theorem open_bs {H : Type} {enc : TypeId × Value → H} {w : World} {b0 : Nat} {v : Value} {d : DataW H} {q : List MemPlace}
    (hv : Value.okWide Tryz.prog w .any b0 22 v) (h : DataW.Trod enc Tryz.prog w 0 (fun _ => true) true 22 v d q) (hz : ∀ m ∈ d.weights Tryz.prog 22, m ≤ 140737488351232) :
    ∃ a len cap l, v = .slice a len cap ∧ Octs w a len l := by
  obtain ⟨a, len, cap, rfl⟩ := okWide_slice Tryz.underlying22 hv
  obtain ⟨fuel, hf⟩ := h
  obtain ⟨a', len', cap', l, hcs, ho⟩ := open_bs0 hf hz
  simp [Value.cells] at hcs
  obtain ⟨rfl, rfl, rfl⟩ := hcs
  exact ⟨a, len, cap, l, rfl, ho⟩
end Go.Proofs.YtniicgbkeifnjaaGreatDoor
namespace Go.Proofs.YtniicgbkeifnjaaGreatDoor.Tree
set_option linter.unusedVariables false
set_option maxRecDepth 100000
def sides (es : List (Int × Int)) (v : Int) : Nat → Nat
  | 0 => 0
  | k + 1 => if (es.getD k (0, 0)).1 = v ∨ (es.getD k (0, 0)).2 = v then sides es v k + 1 else sides es v k
def lastE (es : List (Int × Int)) (v : Int) : Nat → Int
  | 0 => -1
  | k + 1 => if (es.getD k (0, 0)).2 = v then (es.getD k (0, 0)).1 else if (es.getD k (0, 0)).1 = v then (es.getD k (0, 0)).2 else lastE es v k
def ask1 (q : List Int → Nat → Bool) : Bool := all5.all fun ps => (List.range (ps.length + 1)).all fun v => q ps v
theorem of_ask1 {q : List Int → Nat → Bool} (h : ask1 q = true) {ps : List Int} (ho : ok ps = true) {v : Nat} (hv : v ≤ ps.length) : q ps v = true := by
  unfold ask1 at h
  rw [List.all_eq_true] at h
  have h1 := h ps (mem_all5 ho)
  rw [List.all_eq_true] at h1
  exact h1 v (List.mem_range.2 (by omega))
def q_sides (ps : List Int) (v : Nat) : Bool := decide (sides (edges ps) (v : Nat) (edges ps).length = (Plan.bes (edges ps) (v : Nat)).length) && (decide (ps.length = 0) || (Plan.bes (edges ps) (v : Nat)).contains (lastE (edges ps) (v : Nat) (edges ps).length)) && ((Plan.bes (edges ps) (v : Nat)).all fun x => decide (0 ≤ x ∧ x ≠ (v : Nat)))
theorem sides_all : ask1 q_sides = true := by decide +kernel
theorem sides_is {ps : List Int} (ho : layOk ps = true) {v : Nat} (hv : v ≤ ps.length) :
    sides (edges ps) (v : Nat) (edges ps).length = (Plan.bes (edges ps) (v : Nat)).length ∧ lastE (edges ps) (v : Nat) (edges ps).length ∈ Plan.bes (edges ps) (v : Nat) ∧ ∀ x ∈ Plan.bes (edges ps) (v : Nat), 0 ≤ x ∧ x ≠ (v : Nat) := by
  unfold layOk at ho
  rw [Bool.and_eq_true, decide_eq_true_eq] at ho
  have h := of_ask1 sides_all ho.1 hv
  unfold q_sides at h
  rw [Bool.and_eq_true, Bool.and_eq_true, Bool.or_eq_true, decide_eq_true_eq, decide_eq_true_eq, List.all_eq_true] at h
  refine ⟨h.1.1, ?_, fun x hx => by simpa using h.2 x hx⟩
  rcases h.1.2 with h0 | h0
  · exact absurd h0 ho.2
  · simpa using h0
end Go.Proofs.YtniicgbkeifnjaaGreatDoor.Tree
