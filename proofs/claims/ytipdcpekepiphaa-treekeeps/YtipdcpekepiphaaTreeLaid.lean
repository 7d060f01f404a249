/-
  A plan laid by a tree is one that later calls may be asked of; plans that choices make, as arguments. Conditions: none.
-/
import Derived.Test.YtipdcpekepiphaaTreeKnown
namespace Go.Proofs.Ytipdcpekepiphaa
open Go.ChangeShapes Go.WideShapes Go.ChangeAt Go.RowKit
set_option linter.unusedVariables false

theorem Bxd.conj11 {w' : World} {b : Nat} {p : PV} (h : Bxd w' b p) : w'.cell? ⟨b, 0, none⟩ = some (Value.int .i64 p.nodes) ∧ w'.cell? ⟨b, 1, none⟩ = some (Value.slice p.ea p.en p.ec) ∧ w'.cell? ⟨b, 2, none⟩ = some (Value.int .i64 p.lanes) ∧ w'.cell? ⟨b, 3, none⟩ = some (Value.int .i64 p.room) ∧ w'.cell? ⟨b, 4, none⟩ = some (Value.int .i64 p.queue) ∧ w'.cell? ⟨b, 5, none⟩ = some (Value.int .i64 p.rounds) ∧ w'.cell? ⟨b, 6, none⟩ = some (Value.int .i64 p.every) ∧ w'.cell? ⟨b, 7, none⟩ = some (Value.int .i64 p.bag) ∧ w'.cell? ⟨b, 8, none⟩ = some (Value.slice p.wa p.wn p.wc) ∧ w'.cell? ⟨b, 9, none⟩ = some (Value.int .u16 p.start) ∧ w'.cell? ⟨b, 10, none⟩ = some (Value.slice p.na p.nn p.nc) :=
  ⟨h.c0, h.c1, h.c2, h.c3, h.c4, h.c5, h.c6, h.c7, h.c8, h.c9, h.c10⟩
namespace Tree
theorem edges_mem {ps : List Int} (ho : ok ps = true) {x : Int × Int} (hx : x ∈ edges ps) : I64 x.1 ∧ I64 x.2 := by
  obtain ⟨h5, hl⟩ := ok_parts ho
  unfold edges at hx
  obtain ⟨i, hi, rfl⟩ := List.mem_map.1 hx
  have hi' := List.mem_range.1 hi
  have := hl i hi'
  unfold I64
  simp only
  omega
def q_edges (ps : List Int) : Bool := Plan.edgesOk ((ps.length + 1 : Nat) : Int) (edges ps)
theorem edges_all : all5.all q_edges = true := by decide +kernel
theorem edges_ok {ps : List Int} (ho : ok ps = true) : Plan.edgesOk ((ps.length + 1 : Nat) : Int) (edges ps) = true := by
  have h := edges_all
  rw [List.all_eq_true] at h
  exact h ps (mem_all5 ho)
end Tree
theorem Laid.zr {base : Nat} {p q : PV} {ps ws : List Int} {w : World} (h : Laid base p ps ws q w) : Zr w q.wa q.wn ws ∧ q.wn = ws.length ∧ q.wn ≤ q.wc ∧ q.wc ≤ maxLen ∧ (q.wa = none → q.wc = 0) := by
  obtain ⟨a, cap, e, hz, h1, h2, h3, _⟩ := zr_of_owns h.hw
  simp only [Value.slice.injEq] at e
  obtain ⟨e1, e2, e3⟩ := e
  rw [e1, e2, e3]
  exact ⟨hz, rfl, h1, h2, h3⟩
theorem Laid.pl {base : Nat} {p q : PV} {ps ws : List Int} {w w0 : World} {es : List (Int × Int)} {ns : List Nat} (h : Laid base p ps ws q w) (hp : Pl w0 p es ws ns) (ho : Tree.ok ps = true) : Pl w q (Tree.edges ps) ws ((Tree.rows ps).map List.length) := by
  obtain ⟨z1, z2, z3, z4, z5⟩ := h.zr
  have h5 := (Tree.ok_parts ho).1
  have he := h.pr.1.1
  have hn := h.mr.1.1
  rw [Tree.edges_len] at he
  rw [Tree.rows_len] at hn
  obtain ⟨i0, i1, i2, i3, i4, i5, i6⟩ := hp.qi
  refine ⟨h.pr.1, z1, h.mr.1.lr, by omega, by rw [z2, hp.hw.1]; exact hp.wb, by omega, ⟨h.pr.2.1, h.pr.2.2.1⟩, ⟨z3, z4⟩, ⟨h.mr.2.1, h.mr.2.2.1⟩, fun x hx => Tree.edges_mem ho hx, hp.wi, ?_⟩
  rw [h.nodes, h.lanes, h.room, h.queue, h.rounds, h.every, h.bag]
  exact ⟨by unfold I64; omega, i1, i2, i3, i4, i5, i6⟩
theorem argp_make {w : World} {p : PV} {es : List (Int × Int)} {nodes more : Nat} (h : Pl w p es (Plan.mkW more (Plan.mkL more)) (List.replicate (Plan.mkN nodes) (Plan.mkN nodes))) (he : p.ea = none → p.ec = 0) : ArgP w p es (Plan.mkW more (Plan.mkL more)) (List.replicate (Plan.mkN nodes) (Plan.mkN nodes)) := by
  refine ⟨h, fun e => ⟨?_, he e⟩, fun e => ?_, fun e => ?_⟩
  · rcases h.he.2.2 with h0 | ⟨b, off, e2, _⟩
    · exact h0
    · rw [e] at e2; cases e2
  · have h1 := h.hw.1
    rw [Plan.mkW_len] at h1
    have : 1 ≤ Plan.mkL more := by unfold Plan.mkL; omega
    rcases h.hw.2.2 with h0 | ⟨b, off, e2, _⟩
    · omega
    · rw [e] at e2; cases e2
  · have h1 := h.hn.1
    rw [List.length_replicate] at h1
    have := (Plan.mkN_b nodes).1
    rcases h.hn.2.2 with h0 | ⟨b, off, e2, _⟩
    · omega
    · rw [e] at e2; cases e2
/-- a tree's plan may be, as far as its numbers may -/
theorem laid_may {q : PV} {ps ws : List Int} (hq : q.nodes = ((ps.length + 1 : Nat) : Int)) (ho : Tree.layOk ps = true) (hf : Plan.bnd q.lanes 1 3 = true ∧ Plan.bnd q.room 1 8 = true ∧ Plan.bnd q.queue 1 8 = true ∧ Plan.bnd q.rounds 1 4 = true ∧ Plan.bnd q.every 1 8 = true ∧ Plan.bnd q.bag 1 64 = true) (hw : Plan.wsOk ws = true) (hl : (ws.length : Int) = q.lanes) : Plan.errno (Plan.may q.num (Tree.edges ps) ws ((Tree.rows ps).map List.length)) = 0 := by
  unfold Tree.layOk at ho
  rw [Bool.and_eq_true, decide_eq_true_eq] at ho
  have h5 := (Tree.ok_parts ho.1).1
  have hN : Plan.bnd q.nodes 2 6 = true := by rw [hq]; unfold Plan.bnd; simp; omega
  have he := Tree.edges_ok ho.1
  rw [← hq] at he
  have hr : ((Tree.rows ps).map List.length).all (fun n => decide ((n : Int) = q.nodes)) = true := by
    rw [List.all_eq_true]
    intro x hx
    obtain ⟨r, hr, rfl⟩ := List.mem_map.1 hx
    unfold Tree.rows at hr
    obtain ⟨v, _, rfl⟩ := List.mem_map.1 hr
    rw [Tree.row_len, hq]
    simp
  have hrl : (((Tree.rows ps).map List.length).length : Int) = q.nodes := by rw [List.length_map, Tree.rows_len, hq]
  have hm : Plan.may q.num (Tree.edges ps) ws ((Tree.rows ps).map List.length) = true := by
    unfold Plan.may Plan.fine PV.num
    simp only [hN, hf.1, hf.2.1, hf.2.2.1, hf.2.2.2.1, hf.2.2.2.2.1, hf.2.2.2.2.2, he, hw, hl, hr, hrl, decide_true, Bool.and_self]
  rw [hm]
  rfl
end Go.Proofs.Ytipdcpekepiphaa
