/-
  Package plan, as it landed: are no two edges the same (differ)? A copy of them is sorted and compacted. Conditions: none but that the slice leads to edges.
-/
import Derived.Test.YtipdcpekepiphaaLays2
import Derived.Test.YtipdcpekepiphaaPlanDup
import Derived.Sort.OwnSortedInts
import Derived.Shelf.SlSortCmp.WholeK
import Derived.Shelf.Small.Bits
namespace Go.Proofs.Ytipdcpekepiphaa
open Go.ChangeShapes Go.WideShapes Go.ChangeAt Go.RowKit Go.Sort
set_option linter.unusedVariables false

namespace Plan
theorem lt2 (x y : Int × Int) : ltOf cmp2 x y = decide (x.1 < y.1 ∨ x.1 = y.1 ∧ x.2 < y.2) := by
  unfold ltOf
  exact decide_eq_decide.2 (cmp2_neg x y)
theorem swo2 : SWO (ltOf cmp2) where
  irrefl x := by rw [lt2, decide_eq_false_iff_not]; omega
  trans x y z h1 h2 := by rw [lt2, decide_eq_true_eq] at *; omega
  ntrans x y z h1 h2 := by rw [lt2, decide_eq_false_iff_not] at *; omega
/-- sorted: side by side unlike is unlike everywhere -/
theorem adj_nodup {l : List (Int × Int)} (h : ∀ i j, i < j → j < l.length → ltOf cmp2 (edge l j) (edge l i) = false) : Adj l ↔ l.Nodup := by
  constructor
  · intro ha
    refine List.pairwise_iff_getElem.2 fun i j hi hj hij e => ?_
    have e1 : edge l i = edge l j := by
      unfold edge
      rw [List.getD_eq_getElem?_getD, List.getElem?_eq_getElem hi, List.getD_eq_getElem?_getD, List.getElem?_eq_getElem hj]
      exact e
    have h1 := ha i (by omega)
    by_cases e2 : j = i + 1
    · subst e2
      exact h1 e1.symm
    · have h2 := h (i + 1) j (by omega) hj
      have h3 := h i (i + 1) (by omega) (by omega)
      rw [← e1] at h2
      rw [lt2, decide_eq_false_iff_not] at h2 h3
      refine h1 (Prod.ext ?_ ?_) <;> omega
  · intro hn k hk e
    have := List.pairwise_iff_getElem.1 hn k (k + 1) (by omega) hk (by omega)
    unfold edge at e
    rw [List.getD_eq_getElem?_getD, List.getElem?_eq_getElem hk, List.getD_eq_getElem?_getD, List.getElem?_eq_getElem (show k < l.length by omega)] at e
    exact this e.symm
end Plan
def encE (x : Int × Int) : List Value := [.int .i64 x.1, .int .i64 x.2]
theorem flat_pcells (l : List (Int × Int)) : (flatK encE 2 l.toArray).toList = pcells l := by
  apply List.ext_getElem?
  intro t
  by_cases ht : t < l.length * 2
  · have h1 := get_flatK encE 2 l.toArray t (by simpa using ht)
    rw [getElem!_pos _ t (by simpa using ht)] at h1
    rw [Array.getElem?_toList, Array.getElem?_eq_getElem (by simpa using ht), h1]
    have hp := pcells_at l (t / 2) (by omega)
    have hg : l.toArray[t / 2]! = l.getD (t / 2) (0, 0) := by
      rw [getElem!_pos l.toArray (t / 2) (by simp; omega), List.getD_eq_getElem?_getD, List.getElem?_eq_getElem (by omega)]
      simp
    rw [hg]
    rcases Nat.mod_two_eq_zero_or_one t with e0 | e0
    · have ej : t = t / 2 * 2 := by omega
      rw [e0]
      have h3 := hp.1
      rw [← ej] at h3
      rw [h3]
      rfl
    · have ej : t = t / 2 * 2 + 1 := by omega
      rw [e0]
      have h3 := hp.2
      rw [← ej] at h3
      rw [h3]
      rfl
  · rw [List.getElem?_eq_none (by simp; omega), List.getElem?_eq_none (by rw [pcells_len]; omega)]
theorem heap_sortedE {w : World} {g n : Nat} {os : Array Obj} {cur : Array Value} {e : TypeId} {fr : Nat × Nat} (d : Array Value) (hb : w.heap[g]? = some (.cells cur e fr)) :
    (grow (putRow id (Sort.ahead w n) g 0 d) os).heap[g]? = some (.cells (putCells id 0 d cur) e fr) := by
  have hg : g < w.heap.size := (Array.getElem?_eq_some_iff.1 hb).1
  rw [heap_grow_old _ _ (by simpa using hg)]
  simp [putRow, mapBlock, Sort.ahead, Array.getElem?_modify, hb, onCells]
theorem grown_sortedE {w : World} {g n : Nat} {os : Array Obj} (d : Array Value) : w.grownBy (grow (putRow id (Sort.ahead w n) g 0 d) os) (some g) := by
  refine ⟨rfl, rfl, rfl, by simp, fun k hk hne => ?_⟩
  rw [heap_grow_old _ _ (by simpa using hk)]
  have : g ≠ k := fun e => hne (by rw [e])
  simp [putRow, mapBlock, Sort.ahead, Array.getElem?_modify, this]
theorem take_putE (cur d : Array Value) (h : d.size ≤ cur.size) : (putCells id 0 d cur).toList.take d.size = d.toList := by
  apply List.ext_getElem?
  intro j
  by_cases hj : j < d.size
  · rw [List.getElem?_take_of_lt hj, Array.getElem?_toList]
    simp [putCells, hj, show j < cur.size by omega]
  · rw [List.getElem?_take_eq_none (by omega), List.getElem?_eq_none (by simp; omega)]
theorem holdsE {w : World} {base g cap n : Nat} {l : List (Int × Int)} (h : w.ownsRow base 59 2 (.slice (some ⟨g, 0, none⟩) n cap) n (pcells l)) (hn : l.length = n) : HoldsK encE 2 w g 0 l.toArray := by
  intro j hj
  have hj' : j < l.length * 2 := by simpa using hj
  refine ⟨?_, h.frozenAt _⟩
  rw [Nat.zero_add, h.cellAt j (by omega), ← flat_pcells, Array.getElem?_toList, Array.getElem?_eq_getElem hj, getElem!_pos _ j hj]
  rfl
set_option maxHeartbeats 2000000 in
theorem insert_none (p : Option Addr) (cap : Nat) (fv : Value) (w : World) :
    Calls Try.prog 62 #[.slice p 0 cap, .int .i64 0, .int .i64 0, fv] w fun e w' => e = .returned (.tuple #[]) ∧ w' = w := by
  go_enter Try.func62, Try.ntmps62
  go_wp2_with fail
  refine wp_loop_rounds 1 ?_
  rw [rounds_succ]
  go_wp2_with fail
  go_end0
  exact ⟨rfl, rfl⟩
set_option maxHeartbeats 2000000 in
set_option maxRecDepth 100000 in
theorem pdq_none (p : Option Addr) (cap : Nat) (lim : Int) (fv : Value) (w : World) :
    Calls Try.prog 58 #[.slice p 0 cap, .int .i64 0, .int .i64 0, .int .i64 lim, fv] w fun e w' => e = .returned (.tuple #[]) ∧ w' = w := by
  go_enter Try.func58, Try.ntmps58
  go_wp2_with fail
  refine wp_loop_rounds 1 ?_
  rw [rounds_succ]
  go_wp2_with (go_at_call 62; refine (insert_none _ _ _ _).mono ?_; rintro e w' ⟨rfl, rfl⟩)
  (try simp only [Exit.inBlock, Exit.then])
  refine bodyPost_ret (results_none rfl _ _ _) rfl ?_
  exact ⟨rfl, rfl⟩
theorem sortE_none (p : Option Addr) (cap : Nat) (fv : Value) (w : World) :
    Calls Try.prog 49 #[.slice p 0 cap, fv] w fun e w' => e = .returned (.tuple #[]) ∧ w' = w := by
  have hl : ∀ W, Calls Try.prog 59 #[.int .u64 0] W fun e w' => e = .returned (.int .i64 (Lib.bitLen 0 : Nat)) ∧ w' = W := fun W => Any.bits_Len Try.lays125 0 W (by omega) (by omega)
  go_enter Try.func49, Try.ntmps49
  go_wp2_with (first | (go_at_call 59; refine (hl _).mono ?_; rintro e w' ⟨rfl, rfl⟩) | (go_at_call 58; refine (pdq_none _ _ _ _ _).mono ?_; rintro e w' ⟨rfl, rfl⟩))
  go_end0
  exact ⟨rfl, rfl⟩
theorem sortE_own {w : World} {base : Nat} {v : Value} {l : List (Int × Int)} (h : w.ownsRow base 59 2 v l.length (pcells l)) (hl : l.length ≤ 8796093022208) :
    Calls Try.prog 49 #[v, .func (Fn.func 50) #[] #[]] w fun e w' => e = .returned (.tuple #[]) ∧ ∃ l', l'.Perm l ∧ (∀ i j, i < j → j < l'.length → ltOf Plan.cmp2 (Plan.edge l' j) (Plan.edge l' i) = false) ∧ w'.ownsRow base 59 2 v l'.length (pcells l') ∧ Below base w w' := by
  rcases h.2 with ⟨hv, h0⟩ | ⟨g, cap, cur, hv, hb, hg, hnc, hcm, hcs, htake⟩
  · subst hv
    have : l = [] := List.length_eq_zero_iff.1 h0
    subst this
    refine (sortE_none none 0 _ w).mono ?_
    rintro e w' ⟨rfl, rfl⟩
    exact ⟨rfl, [], List.Perm.refl _, fun i j h1 h2 => by simp at h2, h, Below.refl _ _⟩
  · subst hv
    have hlt : g < w.heap.size := by
      rcases Nat.lt_or_ge g w.heap.size with h' | h'
      · exact h'
      · simp [Array.getElem?_eq_none h'] at hg
    have eg : ∀ args w, (callFunc 50 args).run Try.prog w = .ok (.enter 50 args) w := enters_of Try.func50 (by kernel_rfl) rfl
    have hcmp : CmpLays Try.prog 50 #[] encE 2 Plan.cmp2 g 0 l.toArray.size w := fun m os dk _ x y => cmpE_any x y _
    have hS := AnyQ.slices_SortFunc Try.laysE 2 Try.isAgg59 Try.sizeOf59 encE (fun _ => rfl) (fun x v hv => by simp [encE] at hv; rcases hv with rfl | rfl <;> rfl) Plan.cmp2 Plan.swo2 50 #[] g 0 cap l.toArray w eg hcmp (holdsE h rfl) hlt (by simp; omega)
    change Calls Try.prog 49 _ _ _ at hS
    have esz : l.toArray.size = l.length := by simp
    rw [esz] at hS
    refine hS.mono ?_
    rintro e w' ⟨rfl, d', n, os, ⟨hs, _, hp⟩, hso, rfl⟩
    rw [esz] at hs
    have hp' : d'.toList.Perm l := by
      rw [Array.extract_eq_self_of_le (by omega), Array.extract_eq_self_of_le (by simp)] at hp
      simpa using hp
    refine ⟨rfl, d'.toList, hp', fun i j h1 h2 => ?_, ?_, ?_⟩
    · have h2' : j < d'.size := by simpa using h2
      have := hso i j (Nat.zero_le _) h1 (by omega)
      unfold Plan.edge
      rw [getElem!_pos d' j h2', getElem!_pos d' i (by omega)] at this
      rw [List.getD_eq_getElem?_getD, List.getElem?_eq_getElem h2, List.getD_eq_getElem?_getD, List.getElem?_eq_getElem (show i < d'.toList.length by simp; omega)]
      simpa using this
    · have e1 : d'.toList.length = l.length := by simpa using hs
      rw [e1]
      have hfl : (flatK encE 2 d').toList = pcells d'.toList := by have := flat_pcells d'.toList; simpa using this
      refine ⟨by rw [pcells_len, e1], .inr ⟨g, cap, _, rfl, hb, heap_sortedE _ hg, hnc, hcm, by simp [putCells, hcs], ?_⟩⟩
      rw [← hfl]
      have h3 := take_putE cur (flatK encE 2 d') (by rw [size_flatK, hs, hcs]; omega)
      rw [size_flatK, hs] at h3
      exact h3
    · exact (Below.refl base w).grown (grown_sortedE _) (by omega) (fun k hk => by cases hk; exact hb)
end Go.Proofs.Ytipdcpekepiphaa
