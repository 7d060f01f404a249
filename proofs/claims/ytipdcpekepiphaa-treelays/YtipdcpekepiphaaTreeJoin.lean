/-
  A plan laid into a box that was laid ahead of, between or behind the calls: the three ways meet. Conditions: that package tree comes to what TreeSpec says.
-/
import Derived.Test.YtipdcpekepiphaaTreeLaid
namespace Go.Proofs.Ytipdcpekepiphaa
open Go.ChangeShapes Go.WideShapes Go.ChangeAt Go.RowKit
set_option linter.unusedVariables false

theorem Bxd.sans {F : Nat → Prop} {w w' : World} {b : Nat} {p : PV} (h : Bxd w b p) (k : Sans F w w') (hb : ¬ F b) : Bxd w' b p := by
  have hl : b < w.heap.size := cell_lt h.c0
  have e : ∀ o, w'.cell? ⟨b, o, none⟩ = w.cell? ⟨b, o, none⟩ := fun o => k.cell (p := ⟨b, o, none⟩) hl hb
  exact ⟨(e _).trans h.c0, (e _).trans h.c1, (e _).trans h.c2, (e _).trans h.c3, (e _).trans h.c4, (e _).trans h.c5, (e _).trans h.c6, (e _).trans h.c7, (e _).trans h.c8, (e _).trans h.c9, (e _).trans h.c10⟩
/-- eleven cells of another block stored: the plan lies as it lay -/
theorem keep11 {w : World} {gp R : Nat} {p : PV} (h : Bxd w gp p) (hne : gp ≠ R) (v0 v1 v2 v3 v4 v5 v6 v7 v8 v9 v10 : Value) : Bxd (((((((((((w.setCell ⟨R, 0, none⟩ v0).setCell ⟨R, 1, none⟩ v1).setCell ⟨R, 2, none⟩ v2).setCell ⟨R, 3, none⟩ v3).setCell ⟨R, 4, none⟩ v4).setCell ⟨R, 5, none⟩ v5).setCell ⟨R, 6, none⟩ v6).setCell ⟨R, 7, none⟩ v7).setCell ⟨R, 8, none⟩ v8).setCell ⟨R, 9, none⟩ v9).setCell ⟨R, 10, none⟩ v10) gp p :=
  h.sans ((((((((((((Sans.refl (fun k => k = R) w).stored 0 _).stored 1 _).stored 2 _).stored 3 _).stored 4 _).stored 5 _).stored 6 _).stored 7 _).stored 8 _).stored 9 _).stored 10 _) hne
theorem Laid.mono {base base' : Nat} {p q : PV} {ps ws : List Int} {w : World} (h : Laid base p ps ws q w) (hb : base' ≤ base) : Laid base' p ps ws q w := by
  obtain ⟨vs, hv⟩ := h.hn
  exact ⟨h.nodes, h.lanes, h.room, h.queue, h.rounds, h.every, h.bag, h.start, owns_mono h.he hb, owns_mono h.hw hb, vs, hv.mono hb⟩
theorem join_new {W w6 : World} {B : Nat} {p q : PV} {ps ws : List Int} (hL : Laid B p ps ws q w6) (hB : W.heap.size ≤ B) (hW : Below W.heap.size W w6) :
    Bxd (w6.alloc q.obj) w6.heap.size q ∧ Laid W.heap.size p ps ws q (w6.alloc q.obj) ∧ Below W.heap.size W (w6.alloc q.obj) :=
  ⟨bxd_new _ _, (hL.mono hB).below (fresh _ _), later hW (fresh _ _)⟩
theorem join_old {W w6 : World} {B R : Nat} {p q z : PV} {ps ws : List Int} (hb : Bx w6 R z) (hR : W.heap.size ≤ R) (hRB : R < B) (hL : Laid B p ps ws q w6) (hW : Below W.heap.size W w6) :
    Bxd (lay11 w6 R q) R q ∧ Laid W.heap.size p ps ws q (lay11 w6 R q) ∧ Below W.heap.size W (lay11 w6 R q) := by
  refine ⟨lay11_bxd hb q, (hL.sans (lay11_sans w6 R q) (fun j hj e => by omega)).mono (by omega), ?_⟩
  unfold lay11
  exact ((((((((((hW.setCell hR _).setCell hR _).setCell hR _).setCell hR _).setCell hR _).setCell hR _).setCell hR _).setCell hR _).setCell hR _).setCell hR _).setCell hR _
theorem zr0 {w : World} {a : Option Addr} {n : Nat} {l : List Int} (h : Zr w a n l) (hn : 0 < n) : ∃ b o, a = some ⟨b, o, none⟩ ∧ b < w.heap.size := by
  rcases h.2.2 with h' | ⟨b, o, e, hlt, _⟩
  · omega
  · exact ⟨b, o, e, hlt⟩
theorem zr0_cell {w : World} {b o n : Nat} {l : List Int} (h : Zr w (some ⟨b, o, none⟩) n l) (hn : 0 < n) : w.cell? ⟨b, o, none⟩ = some (.int .i64 (l.getD 0 0)) := by
  rcases h.2.2 with h' | ⟨b', o', e, hlt, hc⟩
  · omega
  · cases e
    exact hc 0 hn
/-- the law's own Of, met in any world that has come of w -/
theorem of_met {w : World} {a2 : Option Addr} {n2 c2 : Nat} {l : List Nat} {T : List Int} {m : Nat} (ho : Octs w a2 n2 l) (hT : Tree.ofL l = T) (hm : T.length = m) (u : World) (hB : Below w.heap.size w u) :
    Calls Try.prog 11 #[.slice a2 n2 c2] u fun e w' => ∃ oa oc, e = .returned (.slice oa m oc) ∧ ArgZ w' oa m oc T ∧ Below u.heap.size u w' := by
  refine (of_any (ho.below hB)).mono ?_
  rintro e w' ⟨x, rfl, hown, hB'⟩
  rw [hT] at hown
  obtain ⟨oa, oc, e1, hz⟩ := argz_of_owns hown (by have := (Tree.ofL_len l).2; rw [hT] at this; omega) (by rw [← hT]; exact Tree.ok_num (Tree.ofL_ok l))
  rw [hm] at e1 hz
  subst e1
  exact ⟨oa, oc, rfl, hz, hB'⟩
theorem lay_met (S : TreeSpec) {p : PV} {es : List (Int × Int)} {ws : List Int} {ns : List Nat} {T : List Int} {m : Nat} (hl : Tree.layOk T = true) (u : World) (oa : Option Addr) (oc : Nat) (hp : ArgP u p es ws ns) (hz : ArgZ u oa m oc T) :
    Calls Try.prog 12 #[.agg #[.int .i64 p.nodes, .slice p.ea p.en p.ec, .int .i64 p.lanes, .int .i64 p.room, .int .i64 p.queue, .int .i64 p.rounds, .int .i64 p.every, .int .i64 p.bag, .slice p.wa p.wn p.wc, .int .u16 p.start, .slice p.na p.nn p.nc], .slice oa m oc] u fun e w' => ∃ q : PV, e = .returned (.tuple #[q.val, .int .u16 0]) ∧ Laid u.heap.size p T ws q w' ∧ Below u.heap.size u w' := by
  refine Calls.mono (S.lay hp hz) ?_
  rintro e w' ⟨hE, hB⟩
  obtain ⟨q, h1, h2⟩ := hE.yes hl
  exact ⟨q, h1, h2, hB⟩
end Go.Proofs.Ytipdcpekepiphaa
