/-
  What the laws' frames want: the table of math/bits out of the row's condition, a start that meets it, and slices of masks that are handed in. Conditions: none.
-/
import Derived.Test.YtlojadodabddpaaDoorMaskK
import Derived.Deep.Slices
import Derived.ChangeSame
import Derived.ProofKit
import Derived.LaidMore
import Derived.OpenShut
import Derived.Stop.Joined
import Derived.SizedLaws
import Derived.ShutString
import Derived.ChangeOld
import Derived.Below
import Derived.Carry
namespace Go.Proofs.YtlojadodabddpaaDoor
open Go.ChangeShapes Go.WideShapes Go.ChangeAt Go.RowKit
set_option linter.unusedVariables false

def laidL : List (String × DataW Unit) := Rows.islipNewRow.laid
/-- the table's name -/
def tabName : String := Rows.islipNewRow.named[0]!
theorem ownKnobs : ownKnob Tryd.prog.godebug = none := by kernel_rfl
theorem laidOuts : laidOutB Tryd.prog = true := by kernel_rfl
theorem gTab : Tryd.prog.globalNamed tabName = some 0 := by kernel_rfl
theorem gTabType : (Tryd.prog.globals[0]?).map (·.type) = some 77 := by kernel_rfl
theorem cells8 : Tryd.prog.cellsOf 5 = 1 := by kernel_rfl
theorem cells16 : Tryd.prog.cellsOf 29 = 1 := by kernel_rfl
theorem cellsTab : Tryd.prog.cellsOf 77 = 32 := by kernel_rfl
theorem bytes16 : Tryd.prog.bytesOf 29 = 2 := by kernel_rfl

theorem door_met (os : Os) (args : Array Value) : laidMetH Tryd.prog laidL ((World.doorLaid Tryd.prog 400 os).forCall (fun _ _ => 0) ⟨#[], args, []⟩).memory :=
  laidMetH_of_parts3 (fuel := 8) (laidMet_of_run' 8 (by kernel_rfl) (by kernel_rfl)) (by kernel_rfl) (by kernel_rfl)

theorem tab_of_laid {W : World} (h : laidMetH Tryd.prog laidL W) : Tab W := by
  rw [MakeChecks.laidMetH_plain _ _ _ (by kernel_rfl)] at h
  have hT : Lib.TabIs Tryd.prog W tabName .u8 Mask.tab := Lib.tabIs_of_head gTab gTabType Tryd.underlying77 Tryd.underlying5 cells8 cellsTab (show laidMet Tryd.prog ((tabName, Lib.tabData .u8 Mask.tab) :: []) W from h)
  intro i hi
  exact hT.cell gTab i hi

theorem add_lit (b off j : Nat) : (⟨b, off, none⟩ : Addr).add j = ⟨b, off + j, none⟩ := by
  unfold Addr.add; split
  · rename_i h; rw [h]; rfl
  · rfl
theorem open_rows {H : Type} {enc : TypeId × Value → H} {w : World} {b0 : Nat} {v : Value} {d : DataW H} {p : List MemPlace}
    (hv : Value.okWide Tryd.prog w .any b0 28 v) (h : DataW.Trod enc Tryd.prog w 0 (fun _ => true) true 28 v d p) (hz : ∀ m ∈ d.weights Tryd.prog 28, m ≤ 140737488351232) :
    ∃ a len cap rows, v = .slice a len cap ∧ Nums .u16 w a len rows ∧ (∀ x ∈ rows, x < 65536) ∧ len ≤ cap ∧ cap ≤ 140737488351232 := by
  obtain ⟨a, len, cap, rfl⟩ := okWide_slice Tryd.underlying28 hv
  obtain ⟨fuel, hf⟩ := h
  rcases Deep.open_slice Tryd.underlying28 hf with ⟨hcs, _⟩ | ⟨ad, ln, cp, m, n, D, Pl, hcs, _, hl, hm, hmm, hx, hel⟩
  · simp [Value.cells] at hcs
    obtain ⟨rfl, rfl, rfl⟩ := hcs
    exact ⟨none, 0, 0, [], rfl, Nums.nil, by simp, Nat.le_refl _, by simp⟩
  · simp [Value.cells] at hcs
    obtain ⟨rfl, rfl, rfl⟩ := hcs
    simp only [if_true] at hmm
    simp only [Prod.mk.injEq] at hx
    obtain ⟨hd, _⟩ := hx
    have hcap : cap * 2 ≤ 140737488351232 := by
      refine hz _ ?_
      rw [hd, DataW.weights, Tryd.underlying28]
      simp only [List.length_map, List.length_range, bytes16]
      rw [show len + (m - len) = cap by omega]
      exact List.mem_cons_self
    have hel2 : ∀ j, j < len → ∃ x : Nat, w.cells? 0 (ad.add (j * 1)) 1 = some [.int .u16 (x : Nat)] ∧ x < 65536 := by
      intro j hj
      obtain ⟨cs', h1, h2⟩ := hel j (by omega)
      obtain ⟨x, rfl, _, wx⟩ := DataW.trod_int Tryd.underlying29 h2
      rw [cells16] at h1
      have b := bounds_u16 wx
      obtain ⟨x, rfl⟩ := Int.eq_ofNat_of_zero_le b.1
      exact ⟨x, h1, by omega⟩
    obtain ⟨f, hf2⟩ := Deep.choose_lt hel2
    refine ⟨some ad, len, cap, (List.range len).map f, rfl, ⟨by simp, by unfold maxLen; omega, ?_⟩, ?_, hl, by omega⟩
    · by_cases h0 : len = 0
      · exact .inl h0
      · obtain ⟨b, off, spot⟩ := ad
        have c0 := (World.cells?_some (hf2 0 (by omega)).1).2.2 0 (by omega)
        have hs : spot = none := by
          have := World.cell?_spot (c0.trans rfl)
          simpa [Addr.add] using this
        subst hs
        have hall : ∀ j, j < len → w.cell? ⟨b, off + j, none⟩ = some (.int .u16 (((List.range len).map f).getD j 0 : Nat)) := by
          intro j hj
          have hg : ((List.range len).map f).getD j 0 = f j := by simp [List.getD_eq_getElem?_getD, hj]
          rw [hg]
          have cc := (World.cells?_some (hf2 j hj).1).2.2 0 (by omega)
          rw [add_lit] at cc
          simpa [Addr.add] using cc
        exact .inr ⟨b, off, rfl, cell_lt (hall 0 (by omega)), hall⟩
    · intro x hx
      obtain ⟨j, hj, rfl⟩ := List.mem_map.1 hx
      exact (hf2 j (List.mem_range.1 hj)).2
theorem nat_u16 {a : Int} (h : (Lit.int .u16 a).wf = true) : ∃ m : Nat, a = (m : Nat) ∧ m < 65536 := by
  have b := bounds_u16 h
  obtain ⟨m, rfl⟩ := Int.eq_ofNat_of_zero_le b.1
  exact ⟨m, rfl, by omega⟩
theorem nat_u8 {a : Int} (h : (Lit.int .u8 a).wf = true) : ∃ m : Nat, a = (m : Nat) ∧ m < 256 := by
  have b := bounds_u8 h
  obtain ⟨m, rfl⟩ := Int.eq_ofNat_of_zero_le b.1
  exact ⟨m, rfl, by omega⟩

/-- what lay in w lies as it lay: one call more -/
theorem onward {w u u' : World} (B : Hid (Below w.heap.size w u)) (b : Below u.heap.size u u') : Hid (Below w.heap.size w u') := B.out.trans (b.mono B.out.size)
end Go.Proofs.YtlojadodabddpaaDoor
