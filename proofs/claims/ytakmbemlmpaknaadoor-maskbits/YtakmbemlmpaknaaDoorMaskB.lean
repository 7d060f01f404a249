/-
  Slices that lead to plain numbers; the document's Bits and Count; the laws' same and alike. Conditions: none.
-/
import Derived.Test.YtakmbemlmpaknaaDoorMaskA
import Derived.OwnWalk
import Derived.Maps.AppendAt
import Derived.Laws.AppendOwn
import Derived.RangeFuncBox
namespace Go.Proofs.YtakmbemlmpaknaaDoor
open Go.ChangeShapes Go.WideShapes Go.ChangeAt Go.RowKit
set_option linter.unusedVariables false

/-- numbers as cells -/
def cellsK (κ : IntKind) (l : List Nat) : List Value := l.map fun z => Value.int κ (z : Nat)
theorem cellsK_length (κ : IntKind) (l : List Nat) : (cellsK κ l).length = l.length := List.length_map _
theorem cellsK_snoc (κ : IntKind) (l : List Nat) (z : Nat) : cellsK κ l ++ [Value.int κ (z : Nat)] = cellsK κ (l ++ [z]) := by simp [cellsK]
/-- the slice leads to the numbers l -/
def Nums (κ : IntKind) (w : World) (a : Option Addr) (len : Nat) (l : List Nat) : Prop :=
  l.length = len ∧ len ≤ maxLen ∧ (len = 0 ∨ ∃ b off, a = some ⟨b, off, none⟩ ∧ b < w.heap.size ∧ ∀ i, i < len → w.cell? ⟨b, off + i, none⟩ = some (.int κ (l.getD i 0 : Nat)))
theorem Nums.below {κ : IntKind} {w w' : World} {a : Option Addr} {len : Nat} {l : List Nat} (h : Nums κ w a len l) (hb : Below w.heap.size w w') : Nums κ w' a len l := by
  obtain ⟨h1, h2, h4⟩ := h
  refine ⟨h1, h2, ?_⟩
  rcases h4 with h4 | ⟨b, off, ha, hlt, hc⟩
  · exact .inl h4
  · exact .inr ⟨b, off, ha, Nat.lt_of_lt_of_le hlt hb.size, fun i hi => (hb.cell (p := ⟨b, off + i, none⟩) hlt).trans (hc i hi)⟩
theorem Nums.at {κ : IntKind} {w : World} {a : Option Addr} {len : Nat} {l : List Nat} (h : Nums κ w a len l) {k : Nat} (hk : k < len) : ∃ b off, a = some ⟨b, off, none⟩ ∧ w.cell? ⟨b, off + k, none⟩ = some (.int κ (l.getD k 0 : Nat)) := by
  rcases h.2.2 with h0 | ⟨b, off, ha, _, hc⟩
  · omega
  · exact ⟨b, off, ha, hc k hk⟩
theorem Nums.nil {κ : IntKind} {w : World} : Nums κ w none 0 [] := ⟨rfl, Nat.zero_le _, .inl rfl⟩
theorem nums_of_owns {κ : IntKind} {w : World} {base : Nat} {e : TypeId} {v : Value} {l : List Nat} (h : w.ownsRow base e 1 v l.length (cellsK κ l)) : ∃ a cap, v = .slice a l.length cap ∧ Nums κ w a l.length l := by
  rcases h.2 with ⟨hv, h0⟩ | ⟨g, cap, cur, hv, hb, hg, hnc, hcm, hcs, htake⟩
  · have hl : l = [] := List.eq_nil_of_length_eq_zero h0
    subst hl
    exact ⟨none, 0, hv, Nums.nil⟩
  · subst hv
    refine ⟨_, cap, rfl, rfl, Nat.le_trans hnc hcm, .inr ⟨g, 0, rfl, (Array.getElem?_eq_some_iff.1 hg).1, fun i hi => ?_⟩⟩
    have := h.cellAt i (by omega)
    rw [Nat.zero_add, this]
    simp [cellsK, List.getD, hi]
theorem infoI : (Tryd.prog.info? 3).map (fun i => (i.zero, i.size, i.bytes)) = some (some (.int .i64 0), 1, 8) := by kernel_rfl
theorem infoM : (Tryd.prog.info? 22).map (fun i => (i.zero, i.size, i.bytes)) = some (some (.int .u16 0), 1, 2) := by kernel_rfl
/-- one number that is laid for an append -/
theorem one_cell (κ : IntKind) (t : TypeId) (w : World) (z : Int) : ∀ (j : Nat) (u : Value), [Value.int κ z][j]? = some u → (w.alloc (.cells #[.int κ z] t)).cell? ((⟨w.heap.size, 0, none⟩ : Addr).add j) = some u := by
  intro j u hu
  have hj : j = 0 := by
    have := (List.getElem?_eq_some_iff.1 hu).1
    simp at this
    exact this
  subst hj
  simp at hu
  subst hu
  simp [Addr.add]
theorem one_one (κ : IntKind) (z : Int) : ∀ u ∈ [Value.int κ z], u.oneCell' = true := by
  intro u hu
  rw [List.mem_singleton] at hu
  subst hu
  rfl
/-- an append to a row of the call's own: what lay below stays -/
theorem below_grown {n : Nat} {w w0 w' : World} {e : TypeId} {v : Value} {k : Nat} {xs : List Value} (hb : Below n w w0) (hr : w0.ownsRow n e 1 v k xs) (tmp : Obj) (hn : n ≤ w0.heap.size) (hg : (w0.alloc tmp).grownBy w' v.ownBlock) : Below n w w' := by
  refine (hb.alloc hn tmp).grown hg (by simp; omega) fun j ej => ?_
  rcases hr.2 with ⟨rfl, _⟩ | ⟨g, cap, cur, rfl, hb, _, _⟩
  · simp [Value.ownBlock] at ej
  · obtain rfl : g = j := by simpa [Value.ownBlock] using ej
    exact hb

/-- the bits below k -/
def upto (m k : Nat) : List Nat := (List.range k).filter fun i => m.testBit i
theorem upto_all (m : Nat) : upto m 16 = Mask.bitsOf m := rfl
theorem upto_hit {m k : Nat} (h : m.testBit k = true) : upto m (k + 1) = upto m k ++ [k] := by simp [upto, List.range_succ, h]
theorem upto_miss {m k : Nat} (h : m.testBit k = false) : upto m (k + 1) = upto m k := by simp [upto, List.range_succ, h]
theorem upto_len (m k : Nat) : (upto m k).length ≤ k := by
  have := List.length_filter_le (fun i => m.testBit i) (List.range k)
  rw [List.length_range] at this
  exact this

set_option maxRecDepth 100000 in
set_option maxHeartbeats 1000000 in
theorem refBits_any (m : Nat) (hm : m < 65536) (w : World) :
    Calls Tryd.prog 21 #[.int .u16 m] w fun e w' => ∃ a cap, e = .returned (.slice a (Mask.bitsOf m).length cap) ∧ Nums .i64 w' a (Mask.bitsOf m).length (Mask.bitsOf m) ∧ Below w.heap.size w w' := by
  obtain ⟨i0, hi, hz0, hz1, hz2⟩ := info_parts infoI
  go_enter Tryd.func21, Tryd.ntmps21
  go_wp2
  go_loopw [3, 4] (fun v j wr => ∃ k : Nat, k ≤ 16 ∧ j = .int .i64 k ∧ wr.ownsRow w.heap.size 3 1 v (upto m k).length (cellsK .i64 (upto m k)) ∧ Below w.heap.size w wr) (fun _ j _ => 16 - (intOf j).toNat)
  case atStart => exact ⟨0, Nat.zero_le _, rfl, World.ownsRow_nil _ _ _ _, Below.refl _ _⟩
  case round =>
    obtain ⟨k, hk, rfl, hrow, hB⟩ := hrel
    have HR : Hid (wr.ownsRow w.heap.size 3 1 u3 (upto m k).length (cellsK .i64 (upto m k))) := hrow
    have HB : Hid (Below w.heap.size w wr) := hB
    have hs := hB.size
    clear hrow hB
    by_cases hk16 : k < 16
    · have hb := hasB_nat (m := m) hk16
      obtain ⟨b, hb2⟩ : ∃ b, m.testBit k = b := ⟨_, rfl⟩
      rw [hb2] at hb
      have HT : Hid (m.testBit k = b) := hb2
      clear hb2
      have hl := upto_len m k
      obtain ⟨c, hc⟩ : ∃ c, (upto m k).length = c := ⟨_, rfl⟩
      have HC : Hid ((upto m k).length = c) := hc
      rw [hc] at hl
      rw [hc] at HR
      clear hc
      cases b with
      | false =>
        go_wp2_with (go_at_call 16; refine (refHas_any m hm _ _).mono ?_; rintro e w' ⟨rfl, rfl⟩)
        go_roundw
        case rel => exact ⟨k + 1, by omega, by go_num, by rw [upto_miss HT.out, HC.out]; exact HR.out, HB.out⟩
        case measure => simp [intOf]; omega
      | true =>
        go_wp2_with (first | (go_at_call 16; refine (refHas_any m hm _ _).mono ?_; rintro e w' ⟨rfl, hq⟩; obtain rfl := hq.symm) | (at_builtin; refine wpList_append_own _ rfl _ _ 32 rfl w.heap.size 3 i0 _ 1 8 Tryd.underlying32 hi hz0 hz1 hz2 rfl (by decide) u3 c (cellsK .i64 (upto m k)) rfl (HR.out.alloc _) ⟨wr.heap.size, 0, none⟩ 1 1 [.int .i64 k] rfl rfl (one_cell .i64 _ wr k) (one_one _ _) (by unfold maxLen; omega) (by omega) (by simp; omega) ?_; intro v' u2 hown hg hnil))
        go_roundw
        case rel =>
          have e := HC.out
          refine ⟨k + 1, by omega, by go_num, ?_, below_grown HB.out HR.out _ hs hg⟩
          rw [upto_hit HT.out, ← cellsK_snoc, List.length_append, e]
          exact hown
        case measure => simp [intOf]; omega
    · obtain rfl : k = 16 := by omega
      go_wp2
      obtain ⟨a, cap, hv, hn⟩ := nums_of_owns HR.out
      go_ret
      exact ⟨a, cap, by rw [hv]; rfl, hn, HB.out⟩
theorem refCount_any (m : Nat) (hm : m < 65536) (w : World) :
    Calls Tryd.prog 18 #[.int .u16 m] w fun e w' => e = .returned (.int .i64 ((Mask.bitsOf m).length : Nat)) ∧ Below w.heap.size w w' := by
  go_enter Tryd.func18, Tryd.ntmps18
  go_wp2_with (go_at_call 21; refine (refBits_any m hm _).mono ?_; rintro e w' ⟨a, cap, rfl, hn, hb⟩)
  go_ret
  exact ⟨rfl, hb⟩

set_option maxRecDepth 100000 in
set_option maxHeartbeats 1000000 in
theorem same_any (a b : Option Addr) (n ca cb : Nat) (l : List Nat) (w : World) (ha : Nums .i64 w a n l) (hb : Nums .i64 w b n l) :
    Calls Tryd.prog 19 #[.slice a n ca, .slice b n cb] w fun e w' => e = .returned (.bool true) ∧ Below w.heap.size w w' := by
  have hm := ha.2.1
  unfold maxLen at hm
  have HA : Hid (Nums .i64 w a n l) := ha
  have HB : Hid (Nums .i64 w b n l) := hb
  clear ha hb
  go_enter Tryd.func19, Tryd.ntmps19
  go_wp2
  go_loopw [5] (fun j wr => ∃ k : Nat, k ≤ n ∧ j = .int .i64 k ∧ Below w.heap.size w wr) (fun j _ => n - (intOf j).toNat)
  case atStart => exact ⟨0, Nat.zero_le _, rfl, Below.refl _ _⟩
  case round =>
    obtain ⟨k, hk, rfl, hB⟩ := hrel
    have HW : Hid (Below w.heap.size w wr) := hB
    by_cases hkn : k < n
    · obtain ⟨x, ox, rfl, hx⟩ := (HA.out.below hB).at hkn
      obtain ⟨y, oy, rfl, hy⟩ := (HB.out.below hB).at hkn
      obtain ⟨z, hz⟩ : ∃ z, l.getD k 0 = z := ⟨_, rfl⟩
      rw [hz] at hx hy
      clear hB hz
      go_wp2
      go_quiet (fail)
      go_wp2
      go_roundw
      case rel => exact ⟨k + 1, by omega, by go_num, HW.out.trans ((drewN_below _ _).mono HW.out.size)⟩
      case measure => simp [intOf]; omega
    · obtain rfl : k = n := by omega
      clear hB
      go_wp2
      go_ret
      exact ⟨rfl, HW.out⟩

set_option maxRecDepth 100000 in
set_option maxHeartbeats 1000000 in
theorem alike_any (a b : Option Addr) (n ca cb : Nat) (l : List Nat) (w : World) (ha : Nums .u16 w a n l) (hb : Nums .u16 w b n l) :
    Calls Tryd.prog 23 #[.slice a n ca, .slice b n cb] w fun e w' => e = .returned (.bool true) ∧ Below w.heap.size w w' := by
  have hm := ha.2.1
  unfold maxLen at hm
  have HA : Hid (Nums .u16 w a n l) := ha
  have HB : Hid (Nums .u16 w b n l) := hb
  clear ha hb
  go_enter Tryd.func23, Tryd.ntmps23
  go_wp2
  go_loopw [5] (fun j wr => ∃ k : Nat, k ≤ n ∧ j = .int .i64 k ∧ Below w.heap.size w wr) (fun j _ => n - (intOf j).toNat)
  case atStart => exact ⟨0, Nat.zero_le _, rfl, Below.refl _ _⟩
  case round =>
    obtain ⟨k, hk, rfl, hB⟩ := hrel
    have HW : Hid (Below w.heap.size w wr) := hB
    by_cases hkn : k < n
    · obtain ⟨x, ox, rfl, hx⟩ := (HA.out.below hB).at hkn
      obtain ⟨y, oy, rfl, hy⟩ := (HB.out.below hB).at hkn
      obtain ⟨z, hz⟩ : ∃ z, l.getD k 0 = z := ⟨_, rfl⟩
      rw [hz] at hx hy
      clear hB hz
      go_wp2
      go_quiet (fail)
      go_wp2
      go_roundw
      case rel => exact ⟨k + 1, by omega, by go_num, HW.out.trans ((drewN_below _ _).mono HW.out.size)⟩
      case measure => simp [intOf]; omega
    · obtain rfl : k = n := by omega
      clear hB
      go_wp2
      go_ret
      exact ⟨rfl, HW.out⟩

end Go.Proofs.YtakmbemlmpaknaaDoor
