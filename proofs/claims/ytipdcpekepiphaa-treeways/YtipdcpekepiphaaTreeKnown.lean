/-
  The laws' helper known (package shunterlaw13) over package tree's contracts. Conditions: that package tree comes to what TreeSpec says.
-/
import Derived.Test.YtipdcpekepiphaaTreeSpec
import Derived.Deep.DeepCutAuto
namespace Go.Proofs.Ytipdcpekepiphaa
open Go.ChangeShapes Go.WideShapes Go.ChangeAt Go.RowKit
set_option linter.unusedVariables false

theorem LayEnd.yes {k : IntKind} {base : Nat} {p : PV} {ps ws : List Int} {e : Ending} {w' : World} (h : LayEnd k base p ps ws e w') (hl : Tree.layOk ps = true) : ∃ q : PV, e = .returned (.tuple #[q.val, .int k 0]) ∧ Laid base p ps ws q w' := by
  rcases h with ⟨_, h⟩ | ⟨h, _⟩
  · exact h
  · rw [hl] at h; cases h
theorem LayEnd.no {k : IntKind} {base : Nat} {p : PV} {ps ws : List Int} {e : Ending} {w' : World} (h : LayEnd k base p ps ws e w') (hl : Tree.layOk ps = false) : e = .returned (.tuple #[pz.val, .int k 120]) := by
  rcases h with ⟨h, _⟩ | ⟨_, h⟩
  · rw [hl] at h; cases h
  · exact h
theorem argz_lit (w : World) (l : List Int) (cs : Array Value) (hc : cs.toList = zcells l) (hb : l.length ≤ 17592186044416) (hn : ∀ x ∈ l, I64 x) : ArgZ (w.alloc (.cells cs 3)) (some ⟨w.heap.size, 0, none⟩) l.length l.length l := by
  have hs : cs.size = l.length := by
    have := congrArg List.length hc
    rw [zcells_len] at this
    simpa using this
  have h := World.ownsRow_lit (base := w.heap.size) (e := 3) (size := 1) w cs l.length (Nat.le_refl _) (by unfold maxLen; omega) (by omega)
  rw [hc] at h
  obtain ⟨a, cap, e, hz⟩ := argz_of_owns h hb hn
  cases e
  exact hz
theorem TreeSpec.lay0 (S : TreeSpec) {w : World} {a : Option Addr} {n c : Nat} {ps : List Int} (h : ArgZ w a n c ps) :
    Calls Try.prog 12 #[.agg #[.int .i64 0, .slice none 0 0, .int .i64 0, .int .i64 0, .int .i64 0, .int .i64 0, .int .i64 0, .int .i64 0, .slice none 0 0, .int .u16 0, .slice none 0 0], .slice a n c] w fun e w' => LayEnd .u16 w.heap.size pz ps [] e w' ∧ Below w.heap.size w w' := S.lay (argp_zero w) h
theorem TreeSpec.path' (S : TreeSpec) {w : World} {a : Option Addr} {n c : Nat} {ps : List Int} (h : ArgZ w a n c ps) (v u : Int) (hv : I64 v) (hu : I64 u) (l : List Int) (hl : Tree.pathOf ps v u = l) (m : Nat) (hm : l.length = m) :
    Calls Try.prog 14 #[.slice a n c, .int .i64 v, .int .i64 u] w fun e w' => ∃ a' c', e = .returned (.slice a' m c') ∧ ArgZ w' a' m c' l ∧ Below w.heap.size w w' := by
  subst hl hm
  exact S.path h v u hv hu
theorem tk1 : Tree.pathOf [0, 0, 1] 3 2 = [3, 1, 0, 2] := by decide
theorem tk2 : Tree.pathOf [1] 0 1 = [] := by decide
theorem tk3 : Tree.layOk [0, 0, 1] = true := by decide
theorem tk4 : (Tree.rows [0, 0, 1]).getD 3 [] = [1, 1, 1, 3] := by decide
theorem i64_small {z : Int} (h : 0 ≤ z ∧ z ≤ 1000000) : I64 z := by unfold I64; omega
set_option maxHeartbeats 400000 in
set_option maxRecDepth 100000 in
theorem tknown_any (S : TreeSpec) (w : World) :
    Calls Try.prog 13 #[] w fun e w' => e = .returned (.bool true) ∧ Below w.heap.size w w' := by
  have hnum : ∀ x ∈ ([0, 0, 1] : List Int), I64 x := fun x hx => by
    simp only [List.mem_cons, List.not_mem_nil, or_false] at hx
    rcases hx with rfl | rfl | rfl <;> exact i64_small (by omega)
  have hnum1 : ∀ x ∈ ([1] : List Int), I64 x := fun x hx => by
    simp only [List.mem_cons, List.not_mem_nil, or_false] at hx
    subst hx
    exact i64_small (by omega)
  have A3 : Hid (∀ u : World, ArgZ (u.alloc (.cells #[.int .i64 0, .int .i64 0, .int .i64 1] 3)) (some ⟨u.heap.size, 0, none⟩) 3 3 [0, 0, 1]) := fun u => argz_lit u [0, 0, 1] _ rfl (by simp) hnum
  have A1 : Hid (∀ u : World, ArgZ (u.alloc (.cells #[.int .i64 1] 3)) (some ⟨u.heap.size, 0, none⟩) 1 1 [1]) := fun u => argz_lit u [1] _ rfl (by simp) hnum1
  clear hnum hnum1
  go_enter Try.func13, Try.ntmps13
  go_wp2_with fail
  refine (S.path' (A3.out _) 3 2 (i64_small (by omega)) (i64_small (by omega)) _ tk1 4 rfl).mono ?_
  rintro e w1 ⟨a1, c1, rfl, hz1, hB1⟩
  have HB1 : Hid (Below w.heap.size w w1) := later (fresh _ _) hB1
  have HZ1 : Hid (Zr w1 a1 4 [3, 1, 0, 2]) := hz1.z
  clear hz1 hB1
  go_wp2_with fail
  refine (S.lay0 (A3.out _)).mono ?_
  rintro e w2 ⟨hE, hB2⟩
  obtain ⟨q, rfl, hL⟩ := hE.yes tk3
  have HB2 : Hid (Below w1.heap.size w1 w2) := later (fresh _ _) hB2
  have hqN := hL.nodes
  have HMr : Hid (Mr w2 q.na q.nn (Tree.rows [0, 0, 1])) := hL.mr.1
  have hqn := hL.mr.1.1
  clear hL hE hB2
  obtain ⟨qN, q1, q2, q3, q4, q5, q6, q7, qa, qb, qc, qd, qe, qf, qg, qh, qi⟩ := q
  simp only [PV.val] at HMr hqN hqn ⊢
  rw [Tree.rows_len] at hqn
  simp only [List.length_cons, List.length_nil, Nat.zero_add, Nat.reduceAdd, Int.cast_ofNat_Int] at hqN hqn
  subst hqN
  subst hqn
  obtain ⟨b3, o3, ra, rc, hna, hc3, hz3, hl3, hm3, _⟩ := HMr.out.at (k := 3) (by omega)
  subst hna
  rw [tk4] at hc3 hz3 hl3
  simp only [List.length_cons, List.length_nil, Nat.zero_add, Nat.reduceAdd] at hc3 hz3 hl3
  obtain ⟨b4, o4, hra, hc4⟩ := hz3.at (k := 2) (by omega)
  subst hra
  obtain ⟨b1, o1, ha1, d0⟩ := (HZ1.out.below HB2.out).at (k := 0) (by omega)
  subst ha1
  have HZ2 : Hid (Zr w2 (some ⟨b1, o1, none⟩) 4 [3, 1, 0, 2]) := HZ1.out.below HB2.out
  have d1 := zr_get HZ2.out 1 (by omega)
  have d2 := zr_get HZ2.out 2 (by omega)
  have d3 := zr_get HZ2.out 3 (by omega)
  simp only [List.getD_cons_zero, List.getD_cons_succ] at d0 d1 d2 d3 hc4
  rw [Nat.add_zero] at d0
  have HD : Hid (w2.cell? ⟨b1, o1, none⟩ = some (.int .i64 3) ∧ w2.cell? ⟨b1, o1 + 1, none⟩ = some (.int .i64 1) ∧ w2.cell? ⟨b1, o1 + 2, none⟩ = some (.int .i64 0) ∧ w2.cell? ⟨b1, o1 + 3, none⟩ = some (.int .i64 2) ∧ w2.cell? ⟨b3, o3 + 3, none⟩ = some (.slice (some ⟨b4, o4, none⟩) 4 rc) ∧ w2.cell? ⟨b4, o4 + 2, none⟩ = some (.int .i64 1)) := ⟨d0, d1, d2, d3, hc3, hc4⟩
  have HB3 : Hid (Below w.heap.size w w2) := later HB1.out HB2.out
  have HX : Hid (Bxd (w2.alloc (PV.obj ⟨4, q1, q2, q3, q4, q5, q6, q7, qa, qb, qc, qd, qe, qf, some ⟨b3, o3, none⟩, 4, qi⟩)) w2.heap.size ⟨4, q1, q2, q3, q4, q5, q6, q7, qa, qb, qc, qd, qe, qf, some ⟨b3, o3, none⟩, 4, qi⟩ ∧ Below w2.heap.size w2 (w2.alloc (PV.obj ⟨4, q1, q2, q3, q4, q5, q6, q7, qa, qb, qc, qd, qe, qf, some ⟨b3, o3, none⟩, 4, qi⟩))) := ⟨bxd_new _ _, fresh _ _⟩
  clear hz3 d0 d1 d2 d3 hc3 hc4 HZ1 HZ2 HMr
  simp only [PV.obj] at HX
  go_upto_region 3 with fail
  generalize w2.alloc _ = W3 at HX ⊢
  obtain ⟨d0, d1, d2, d3, d4, d5⟩ := HD.out
  have k0 := (HX.out.2.cell (p := ⟨_, _, none⟩) (cell_lt d0)).trans d0
  have k1 := (HX.out.2.cell (p := ⟨_, _, none⟩) (cell_lt d1)).trans d1
  have k2 := (HX.out.2.cell (p := ⟨_, _, none⟩) (cell_lt d2)).trans d2
  have k3 := (HX.out.2.cell (p := ⟨_, _, none⟩) (cell_lt d3)).trans d3
  have k4 := (HX.out.2.cell (p := ⟨_, _, none⟩) (cell_lt d4)).trans d4
  have k5 := (HX.out.2.cell (p := ⟨_, _, none⟩) (cell_lt d5)).trans d5
  have x0 := HX.out.1.c0
  have x10 := HX.out.1.c10
  simp only at x0 x10
  have HB4 : Hid (Below w.heap.size w W3) := later HB3.out HX.out.2
  clear d0 d1 d2 d3 d4 d5 HD HX
  generalize w2.heap.size = g2 at x0 x10 ⊢
  clear hl3 hm3
  go_wp2_with fail
  refine (S.path' (A1.out _) 0 1 (i64_small (by omega)) (i64_small (by omega)) _ tk2 0 rfl).mono ?_
  rintro e w3 ⟨a3, c3, rfl, hz3, hB3⟩
  have HB5 : Hid (Below w.heap.size w w3) := later HB4.out (later (fresh _ _) hB3)
  clear hz3 hB3 k0 k1 k2 k3 k4 k5 x0 x10
  go_wp2_with fail
  go_ret
  exact ⟨rfl, HB5.out⟩
end Go.Proofs.Ytipdcpekepiphaa
