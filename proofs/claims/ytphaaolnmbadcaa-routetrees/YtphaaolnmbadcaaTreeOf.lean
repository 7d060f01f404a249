/-
  Trees that choices make (package shunterlaw13's Of), and plans that are laid by them, where package tree itself is not called. Conditions: none.
-/
import Derived.Test.YtphaaolnmbadcaaRefTreeC
import Derived.Test.YtphaaolnmbadcaaOctets
import Derived.Test.YtphaaolnmbadcaaRefRouteA
namespace Go.Proofs.Ytphaaolnmbadcaa
open Go.ChangeShapes Go.WideShapes Go.ChangeAt Go.RowKit
set_option linter.unusedVariables false

namespace Tree
def ofPre (l : List Nat) (k : Nat) : List Int := (List.range k).map fun (i : Nat) => ((l.getD i 0 % (i + 1) : Nat) : Int)
def ofL (l : List Nat) : List Int := if l.length = 0 then [0] else ofPre l (min l.length 5)
theorem ofPre_len (l : List Nat) (k : Nat) : (ofPre l k).length = k := by unfold ofPre; rw [List.length_map, List.length_range]
theorem ofPre_succ (l : List Nat) (k : Nat) : ofPre l (k + 1) = ofPre l k ++ [((l.getD k 0 % (k + 1) : Nat) : Int)] := by unfold ofPre; rw [List.range_succ, List.map_append]; rfl
theorem ofPre_at (l : List Nat) {k i : Nat} (h : i < k) : (ofPre l k).getD i 0 = ((l.getD i 0 % (i + 1) : Nat) : Int) := by
  unfold ofPre
  rw [List.getD_eq_getElem?_getD, List.getElem?_map, List.getElem?_range h]
  rfl
theorem ofL_len (l : List Nat) : 1 ≤ (ofL l).length ∧ (ofL l).length ≤ 5 := by
  unfold ofL
  split
  · simp
  · rw [ofPre_len]; omega
theorem ofL_ok (l : List Nat) : ok (ofL l) = true := by
  have h5 := (ofL_len l).2
  unfold ok
  rw [Bool.and_eq_true, decide_eq_true_eq, low_iff]
  refine ⟨?_, h5⟩
  unfold ofL
  split
  · intro i hi
    have : i = 0 := by simpa using hi
    subst this
    simp
  · intro i hi
    rw [ofPre_len] at hi
    rw [ofPre_at l hi]
    have := Nat.mod_lt (l.getD i 0) (show i + 1 > 0 by omega)
    omega
theorem ofL_lay (l : List Nat) : layOk (ofL l) = true := by
  unfold layOk
  rw [ofL_ok, Bool.true_and, decide_eq_true_eq]
  have := (ofL_len l).1
  omega
theorem ok_num {ps : List Int} (h : ok ps = true) : ∀ x ∈ ps, I64 x := by
  obtain ⟨h5, hl⟩ := ok_parts h
  intro x hx
  obtain ⟨k, hk, rfl⟩ := List.getElem_of_mem hx
  have := hl k hk
  rw [List.getD_eq_getElem?_getD, List.getElem?_eq_getElem hk] at this
  simp only [Option.getD_some] at this
  unfold I64
  omega
end Tree
set_option maxHeartbeats 1000000 in
set_option maxRecDepth 100000 in
theorem of_any {w : World} {a : Option Addr} {n c : Nat} {l : List Nat} (h : Octs w a n l) :
    Calls Try.prog 16 #[.slice a n c] w fun e w' => ∃ u, e = .returned u ∧ w'.ownsRow w.heap.size 3 1 u (Tree.ofL l).length (zcells (Tree.ofL l)) ∧ Below w.heap.size w w' := by
  have HO : Hid (Octs w a n l) := h
  have hln := h.1
  clear h
  go_enter Try.func16, Try.ntmps16
  go_wp2_with fail
  go_loopw [3, 4] (fun out i wr => ∃ k : Nat, k ≤ n ∧ k ≤ 5 ∧ i = .int .i64 k ∧ wr.ownsRow w.heap.size 3 1 out (Tree.ofPre l k).length (zcells (Tree.ofPre l k)) ∧ Below w.heap.size w wr) (fun _ i _ => 5 - (intOf i).toNat)
  case atStart => exact ⟨0, Nat.zero_le _, Nat.zero_le _, rfl, World.ownsRow_nil _ _ _ _, Below.refl _ _⟩
  case round =>
    obtain ⟨k, hk, hk5, rfl, hO, hB⟩ := hrel
    have HOw : Hid (wr.ownsRow w.heap.size 3 1 u3 (Tree.ofPre l k).length (zcells (Tree.ofPre l k))) := hO
    have HB : Hid (Below w.heap.size w wr) := hB
    have hsz := hB.size
    clear hO hB
    by_cases hkn : k < n
    · by_cases hk6 : k < 5
      · obtain ⟨b, off, ha, hc⟩ := (HO.out.below HB.out).at (by omega)
        have hcell := hc k hkn
        subst ha
        obtain ⟨y, hy⟩ : ∃ y, l.getD k 0 = y := ⟨_, rfl⟩
        have hy256 : y < 256 := by rw [← hy]; exact Oct_getD HO.out.2.2.1 k
        rw [hy] at hcell
        obtain ⟨r, hr⟩ : ∃ r : Int, (y : Int) % ((k : Int) + 1) = r := ⟨_, rfl⟩
        have HA : Hid (Tree.ofPre l k ++ [r] = Tree.ofPre l (k + 1)) := by
          show _ = _
          rw [Tree.ofPre_succ, hy, ← hr]
          congr 2
        have hpl := Tree.ofPre_len l k
        clear hc hy
        go_wp2_with (at_builtin; refine wpList_append_z rfl (.tmp 15) (.tmp 24) rfl w.heap.size u3 (Tree.ofPre l k) rfl (owns_below HOw.out (fresh _ _)) (by simp; omega) (some ⟨wr.heap.size, 0, none⟩) 1 1 [r] rfl (zr_one wr _) (fun e => by cases e) (by omega) _ HA.out ?_; intro v4 w4 hown4 hB4)
        go_roundw
        case rel =>
          have R1 : Below w.heap.size w w4 := (HB.out.alloc hsz _).trans hB4
          first | exact ⟨k + 1, by omega, by omega, by go_num, hown4, R1⟩ | ((repeat apply Exists.intro); exact ⟨⟨k + 1, by omega, by omega, by go_num, hown4, R1⟩, rfl⟩)
        case measure => simp [intOf]; omega
      · obtain rfl : k = 5 := by omega
        obtain ⟨a3, cap3, hv3, hz3, _⟩ := zr_of_owns HOw.out
        rw [Tree.ofPre_len] at hv3
        subst hv3
        have HE : Hid (Tree.ofPre l 5 = Tree.ofL l) := by
          show _ = _
          unfold Tree.ofL
          rw [if_neg (by omega), show min l.length 5 = 5 by omega]
        clear hz3
        go_wp2_with fail
        go_ret
        refine ⟨_, rfl, ?_, HB.out⟩
        have := HOw.out
        rw [HE.out] at this
        exact this
    · obtain rfl : k = n := by omega
      obtain ⟨a3, cap3, hv3, hz3, _⟩ := zr_of_owns HOw.out
      rw [Tree.ofPre_len] at hv3
      subst hv3
      clear hz3
      by_cases hk0 : k = 0
      · subst hk0
        have HE : Hid (Tree.ofPre l 0 ++ [0] = Tree.ofL l) := by
          show _ = _
          unfold Tree.ofL
          rw [if_pos hln]
          rfl
        go_wp2_with (at_builtin; refine wpList_append_z rfl (.tmp 29) (.tmp 30) rfl w.heap.size (.slice a3 0 cap3) (Tree.ofPre l 0) rfl (owns_below HOw.out (fresh _ _)) (by simp; omega) (some ⟨wr.heap.size, 0, none⟩) 1 1 [0] rfl (zr_one wr _) (fun e => by cases e) (by rw [Tree.ofPre_len]; omega) _ HE.out ?_; intro v4 w4 hown4 hB4)
        go_ret
        exact ⟨_, rfl, hown4, (HB.out.alloc hsz _).trans hB4⟩
      · have HE : Hid (Tree.ofPre l k = Tree.ofL l) := by
          show _ = _
          unfold Tree.ofL
          rw [if_neg (by omega), show min l.length 5 = k by omega]
        have hk0' : ((k : Int) == 0) = false := by simp; omega
        go_wp2_with fail
        go_ret
        refine ⟨_, rfl, ?_, HB.out⟩
        have := HOw.out
        rw [HE.out] at this
        exact this
theorem LayEnd.yes {k : IntKind} {base : Nat} {p : PV} {ps ws : List Int} {e : Ending} {w' : World} (h : LayEnd k base p ps ws e w') (hl : Tree.layOk ps = true) : ∃ q : PV, e = .returned (.tuple #[q.val, .int k 0]) ∧ Laid base p ps ws q w' := by
  rcases h with ⟨_, h⟩ | ⟨h, _⟩
  · exact h
  · rw [hl] at h; cases h
namespace Tree
theorem edges_mem {ps : List Int} (ho : ok ps = true) {x : Int × Int} (hx : x ∈ edges ps) : I64 x.1 ∧ I64 x.2 := by
  obtain ⟨h5, hl⟩ := ok_parts ho
  unfold edges at hx
  obtain ⟨i, hi, rfl⟩ := List.mem_map.1 hx
  have hi' := List.mem_range.1 hi
  have := hl i hi'
  unfold I64
  simp only
  omega
def q_edges (ps : List Int) : Bool := Plan.edgesOk ((ps.length + 1 : Nat) : Int) (edges ps)
theorem edges_all : all5.all q_edges = true := by decide +kernel
theorem edges_ok {ps : List Int} (ho : ok ps = true) : Plan.edgesOk ((ps.length + 1 : Nat) : Int) (edges ps) = true := by
  have h := edges_all
  rw [List.all_eq_true] at h
  exact h ps (mem_all5 ho)
end Tree
theorem Laid.zr {base : Nat} {p q : PV} {ps ws : List Int} {w : World} (h : Laid base p ps ws q w) : Zr w q.wa q.wn ws ∧ q.wn = ws.length ∧ q.wn ≤ q.wc ∧ q.wc ≤ maxLen ∧ (q.wa = none → q.wc = 0) := by
  obtain ⟨a, cap, e, hz, h1, h2, h3, _⟩ := zr_of_owns h.hw
  simp only [Value.slice.injEq] at e
  obtain ⟨e1, e2, e3⟩ := e
  rw [e1, e2, e3]
  exact ⟨hz, rfl, h1, h2, h3⟩
theorem Laid.pl {base : Nat} {p q : PV} {ps ws : List Int} {w w0 : World} {es : List (Int × Int)} {ns : List Nat} (h : Laid base p ps ws q w) (hp : Pl w0 p es ws ns) (ho : Tree.ok ps = true) : Pl w q (Tree.edges ps) ws ((Tree.rows ps).map List.length) := by
  obtain ⟨z1, z2, z3, z4, z5⟩ := h.zr
  have h5 := (Tree.ok_parts ho).1
  have he := h.pr.1.1
  have hn := h.mr.1.1
  rw [Tree.edges_len] at he
  rw [Tree.rows_len] at hn
  obtain ⟨i0, i1, i2, i3, i4, i5, i6⟩ := hp.qi
  refine ⟨h.pr.1, z1, h.mr.1.lr, by omega, by rw [z2, hp.hw.1]; exact hp.wb, by omega, ⟨h.pr.2.1, h.pr.2.2.1⟩, ⟨z3, z4⟩, ⟨h.mr.2.1, h.mr.2.2.1⟩, fun x hx => Tree.edges_mem ho hx, hp.wi, ?_⟩
  rw [h.nodes, h.lanes, h.room, h.queue, h.rounds, h.every, h.bag]
  exact ⟨by unfold I64; omega, i1, i2, i3, i4, i5, i6⟩
/-- a tree's plan may be, as far as its numbers may -/
theorem laid_may {q : PV} {ps ws : List Int} (hq : q.nodes = ((ps.length + 1 : Nat) : Int)) (ho : Tree.layOk ps = true) (hf : Plan.bnd q.lanes 1 3 = true ∧ Plan.bnd q.room 1 8 = true ∧ Plan.bnd q.queue 1 8 = true ∧ Plan.bnd q.rounds 1 4 = true ∧ Plan.bnd q.every 1 8 = true ∧ Plan.bnd q.bag 1 64 = true) (hw : Plan.wsOk ws = true) (hl : (ws.length : Int) = q.lanes) : Plan.errno (Plan.may q.num (Tree.edges ps) ws ((Tree.rows ps).map List.length)) = 0 := by
  unfold Tree.layOk at ho
  rw [Bool.and_eq_true, decide_eq_true_eq] at ho
  have h5 := (Tree.ok_parts ho.1).1
  have hN : Plan.bnd q.nodes 2 6 = true := by rw [hq]; unfold Plan.bnd; simp; omega
  have he := Tree.edges_ok ho.1
  rw [← hq] at he
  have hr : ((Tree.rows ps).map List.length).all (fun n => decide ((n : Int) = q.nodes)) = true := by
    rw [List.all_eq_true]
    intro x hx
    obtain ⟨r, hr, rfl⟩ := List.mem_map.1 hx
    unfold Tree.rows at hr
    obtain ⟨v, _, rfl⟩ := List.mem_map.1 hr
    rw [Tree.row_len, hq]
    simp
  have hrl : (((Tree.rows ps).map List.length).length : Int) = q.nodes := by rw [List.length_map, Tree.rows_len, hq]
  have hm : Plan.may q.num (Tree.edges ps) ws ((Tree.rows ps).map List.length) = true := by
    unfold Plan.may Plan.fine PV.num
    simp only [hN, hf.1, hf.2.1, hf.2.2.1, hf.2.2.2.1, hf.2.2.2.2.1, hf.2.2.2.2.2, he, hw, hl, hr, hrl, decide_true, Bool.and_self]
  rw [hm]
  rfl
theorem laid_may' {q : PV} {ps ws : List Int} (hq : q.nodes = ((ps.length + 1 : Nat) : Int)) (ho : Tree.layOk ps = true) (hf : Plan.bnd q.lanes 1 3 = true ∧ Plan.bnd q.room 1 8 = true ∧ Plan.bnd q.queue 1 8 = true ∧ Plan.bnd q.rounds 1 4 = true ∧ Plan.bnd q.every 1 8 = true ∧ Plan.bnd q.bag 1 64 = true) (hw : Plan.wsOk ws = true) (hl : (ws.length : Int) = q.lanes) : Plan.may q.num (Tree.edges ps) ws ((Tree.rows ps).map List.length) = true := by
  have h := laid_may hq ho hf hw hl
  cases e : Plan.may q.num (Tree.edges ps) ws ((Tree.rows ps).map List.length) with
  | true => rfl
  | false => rw [e] at h; exact absurd h (by decide)
theorem way_in {ps : List Int} (ho : Tree.ok ps = true) : ∀ r ∈ Tree.rows ps, ∀ x ∈ r, 0 ≤ x ∧ x ≤ 5 := by
  have h : (Tree.all5.all fun ps => (Tree.rows ps).all fun r => r.all fun x => decide (0 ≤ x) && decide (x ≤ 5)) = true := by decide +kernel
  rw [List.all_eq_true] at h
  have h1 := h ps (Tree.mem_all5 ho)
  simp only [List.all_eq_true, Bool.and_eq_true, decide_eq_true_eq] at h1
  exact h1
theorem Laid.pln {base : Nat} {p q : PV} {ps ws : List Int} {w w0 : World} {es : List (Int × Int)} {ns : List Nat} (h : Laid base p ps ws q w) (hp : Pl w0 p es ws ns) (ho : Tree.ok ps = true) : PlN w q (Tree.edges ps) ws (Tree.rows ps) :=
  ⟨h.pl hp ho, h.mr.1, fun r hr x hx => by have := way_in ho r hr x hx; unfold I64; omega⟩
end Go.Proofs.Ytphaaolnmbadcaa
