/-
  Contracts and plain facts that the walks lean on (PlanBox, PlanMake, TreeRows, RefRouteA, RouteRows, RouteDfs). Conditions: none but those that each states.
-/
import Derived.Test.YtniicgbkeifnjaaGreatDoorQ20
namespace Go.Proofs.YtniicgbkeifnjaaGreatDoor
open Go.ChangeShapes Go.WideShapes Go.ChangeAt Go.RowKit
set_option linter.unusedVariables false
set_option maxRecDepth 100000
structure Bx (w : World) (b : Nat) (p : PV) : Prop where
  x : Bxd w b p
  f : ∀ k, w.frozen? ⟨b, k, none⟩ = false
theorem bx_new (w : World) (p : PV) : Bx (w.alloc p.obj) w.heap.size p := by
  refine ⟨bxd_new w p, fun k => ?_⟩
  unfold PV.obj
  simp
theorem Bx.sans {F : Nat → Prop} {w w' : World} {b : Nat} {p : PV} (h : Bx w b p) (k : Sans F w w') (hb : ¬ F b) : Bx w' b p := by
  have hl : b < w.heap.size := cell_lt h.x.c0
  have e : ∀ o, w'.cell? ⟨b, o, none⟩ = w.cell? ⟨b, o, none⟩ := fun o => k.cell (p := ⟨b, o, none⟩) hl hb
  exact ⟨⟨(e _).trans h.x.c0, (e _).trans h.x.c1, (e _).trans h.x.c2, (e _).trans h.x.c3, (e _).trans h.x.c4, (e _).trans h.x.c5, (e _).trans h.x.c6, (e _).trans h.x.c7, (e _).trans h.x.c8, (e _).trans h.x.c9, (e _).trans h.x.c10⟩, fun o => (k.frozen (p := ⟨b, o, none⟩) hl hb).trans (h.f o)⟩
theorem Bx.below {w w' : World} {b B : Nat} {p : PV} (h : Bx w b p) (k : Below B w w') (hb : b < B) : Bx w' b p := by
  have e : ∀ o, w'.cell? ⟨b, o, none⟩ = w.cell? ⟨b, o, none⟩ := fun o => k.cell (p := ⟨b, o, none⟩) hb
  exact ⟨⟨(e _).trans h.x.c0, (e _).trans h.x.c1, (e _).trans h.x.c2, (e _).trans h.x.c3, (e _).trans h.x.c4, (e _).trans h.x.c5, (e _).trans h.x.c6, (e _).trans h.x.c7, (e _).trans h.x.c8, (e _).trans h.x.c9, (e _).trans h.x.c10⟩, fun o => (k.frozen (p := ⟨b, o, none⟩) hb).trans (h.f o)⟩
theorem Bx.setW {w : World} {b : Nat} {p : PV} (h : Bx w b p) (a : Option Addr) (n c : Nat) : Bx (w.setCell ⟨b, 8, none⟩ (.slice a n c)) b { p with wa := a, wn := n, wc := c } := by
  refine ⟨⟨cell_set h.x.c0 (by omega), cell_set h.x.c1 (by omega), cell_set h.x.c2 (by omega), cell_set h.x.c3 (by omega), cell_set h.x.c4 (by omega), cell_set h.x.c5 (by omega), cell_set h.x.c6 (by omega), cell_set h.x.c7 (by omega), World.cell?_setCell_same _ _ _ h.x.c8, cell_set h.x.c9 (by omega), cell_set h.x.c10 (by omega)⟩, fun k => by rw [World.frozen?_setCell]; exact h.f k⟩
theorem Bx.setE {w : World} {b : Nat} {p : PV} (h : Bx w b p) (a : Option Addr) (n c : Nat) : Bx (w.setCell ⟨b, 1, none⟩ (.slice a n c)) b { p with ea := a, en := n, ec := c } := by
  refine ⟨⟨cell_set h.x.c0 (by omega), World.cell?_setCell_same _ _ _ h.x.c1, cell_set h.x.c2 (by omega), cell_set h.x.c3 (by omega), cell_set h.x.c4 (by omega), cell_set h.x.c5 (by omega), cell_set h.x.c6 (by omega), cell_set h.x.c7 (by omega), cell_set h.x.c8 (by omega), cell_set h.x.c9 (by omega), cell_set h.x.c10 (by omega)⟩, fun k => by rw [World.frozen?_setCell]; exact h.f k⟩
theorem Bx.setN {w : World} {b : Nat} {p : PV} (h : Bx w b p) (a : Option Addr) (n c : Nat) : Bx (w.setCell ⟨b, 10, none⟩ (.slice a n c)) b { p with na := a, nn := n, nc := c } := by
  refine ⟨⟨cell_set h.x.c0 (by omega), cell_set h.x.c1 (by omega), cell_set h.x.c2 (by omega), cell_set h.x.c3 (by omega), cell_set h.x.c4 (by omega), cell_set h.x.c5 (by omega), cell_set h.x.c6 (by omega), cell_set h.x.c7 (by omega), cell_set h.x.c8 (by omega), cell_set h.x.c9 (by omega), World.cell?_setCell_same _ _ _ h.x.c10⟩, fun k => by rw [World.frozen?_setCell]; exact h.f k⟩
theorem owns_sans {w w' : World} {F : Nat → Prop} {base n size : Nat} {e : TypeId} {v : Value} {xs : List Value} (h : w.ownsRow base e size v n xs) (k : Sans F w w') (hF : ∀ j, base ≤ j → ¬ F j) : w'.ownsRow base e size v n xs := by
  refine ⟨h.1, ?_⟩
  rcases h.2 with h2 | ⟨g, cp, cur, e, hb, hg, r⟩
  · exact .inl h2
  · refine .inr ⟨g, cp, cur, e, hb, ?_, r⟩
    have hlt : g < w.heap.size := by
      rcases Nat.lt_or_ge g w.heap.size with h' | h'
      · exact h'
      · simp [Array.getElem?_eq_none h'] at hg
    exact (k.block g hlt (hF g hb)).trans hg
theorem Sans.grew {w0 w1 w2 : World} {b B : Nat} (h : Sans (fun k => k = b) w0 w1) (hB : w0.heap.size ≤ B) (hB1 : B ≤ w1.heap.size) (k : Below B w1 w2) : Sans (fun k => k = b) w0 w2 :=
  ⟨k.os.trans h.os, k.tape.trans h.tape, k.output.trans h.output, Nat.le_trans h.size k.size, fun j hj hn => (k.block j (by omega)).trans (h.block j hj hn)⟩
theorem Sans.stored {w0 w1 : World} {b : Nat} (h : Sans (fun k => k = b) w0 w1) (j : Nat) (v : Value) : Sans (fun k => k = b) w0 (w1.setCell ⟨b, j, none⟩ v) :=
  h.then (Sans.of_set w1 ⟨b, j, none⟩ v rfl)
def lay11 (w : World) (R : Nat) (p : PV) : World := (((((((((((w.setCell ⟨R, 0, none⟩ (.int .i64 p.nodes)).setCell ⟨R, 1, none⟩ (.slice p.ea p.en p.ec)).setCell ⟨R, 2, none⟩ (.int .i64 p.lanes)).setCell ⟨R, 3, none⟩ (.int .i64 p.room)).setCell ⟨R, 4, none⟩ (.int .i64 p.queue)).setCell ⟨R, 5, none⟩ (.int .i64 p.rounds)).setCell ⟨R, 6, none⟩ (.int .i64 p.every)).setCell ⟨R, 7, none⟩ (.int .i64 p.bag)).setCell ⟨R, 8, none⟩ (.slice p.wa p.wn p.wc)).setCell ⟨R, 9, none⟩ (.int .u16 p.start)).setCell ⟨R, 10, none⟩ (.slice p.na p.nn p.nc))
theorem lay11_bxd {w : World} {R : Nat} {q : PV} (h : Bx w R q) (p : PV) : Bxd (lay11 w R p) R p :=
  ⟨(cell_set (cell_set (cell_set (cell_set (cell_set (cell_set (cell_set (cell_set (cell_set (cell_set (World.cell?_setCell_same _ _ _ h.x.c0) (by omega)) (by omega)) (by omega)) (by omega)) (by omega)) (by omega)) (by omega)) (by omega)) (by omega)) (by omega)), (cell_set (cell_set (cell_set (cell_set (cell_set (cell_set (cell_set (cell_set (cell_set (World.cell?_setCell_same _ _ _ (cell_set h.x.c1 (by omega))) (by omega)) (by omega)) (by omega)) (by omega)) (by omega)) (by omega)) (by omega)) (by omega)) (by omega)), (cell_set (cell_set (cell_set (cell_set (cell_set (cell_set (cell_set (cell_set (World.cell?_setCell_same _ _ _ (cell_set (cell_set h.x.c2 (by omega)) (by omega))) (by omega)) (by omega)) (by omega)) (by omega)) (by omega)) (by omega)) (by omega)) (by omega)), (cell_set (cell_set (cell_set (cell_set (cell_set (cell_set (cell_set (World.cell?_setCell_same _ _ _ (cell_set (cell_set (cell_set h.x.c3 (by omega)) (by omega)) (by omega))) (by omega)) (by omega)) (by omega)) (by omega)) (by omega)) (by omega)) (by omega)), (cell_set (cell_set (cell_set (cell_set (cell_set (cell_set (World.cell?_setCell_same _ _ _ (cell_set (cell_set (cell_set (cell_set h.x.c4 (by omega)) (by omega)) (by omega)) (by omega))) (by omega)) (by omega)) (by omega)) (by omega)) (by omega)) (by omega)), (cell_set (cell_set (cell_set (cell_set (cell_set (World.cell?_setCell_same _ _ _ (cell_set (cell_set (cell_set (cell_set (cell_set h.x.c5 (by omega)) (by omega)) (by omega)) (by omega)) (by omega))) (by omega)) (by omega)) (by omega)) (by omega)) (by omega)), (cell_set (cell_set (cell_set (cell_set (World.cell?_setCell_same _ _ _ (cell_set (cell_set (cell_set (cell_set (cell_set (cell_set h.x.c6 (by omega)) (by omega)) (by omega)) (by omega)) (by omega)) (by omega))) (by omega)) (by omega)) (by omega)) (by omega)), (cell_set (cell_set (cell_set (World.cell?_setCell_same _ _ _ (cell_set (cell_set (cell_set (cell_set (cell_set (cell_set (cell_set h.x.c7 (by omega)) (by omega)) (by omega)) (by omega)) (by omega)) (by omega)) (by omega))) (by omega)) (by omega)) (by omega)), (cell_set (cell_set (World.cell?_setCell_same _ _ _ (cell_set (cell_set (cell_set (cell_set (cell_set (cell_set (cell_set (cell_set h.x.c8 (by omega)) (by omega)) (by omega)) (by omega)) (by omega)) (by omega)) (by omega)) (by omega))) (by omega)) (by omega)), (cell_set (World.cell?_setCell_same _ _ _ (cell_set (cell_set (cell_set (cell_set (cell_set (cell_set (cell_set (cell_set (cell_set h.x.c9 (by omega)) (by omega)) (by omega)) (by omega)) (by omega)) (by omega)) (by omega)) (by omega)) (by omega))) (by omega)), (World.cell?_setCell_same _ _ _ (cell_set (cell_set (cell_set (cell_set (cell_set (cell_set (cell_set (cell_set (cell_set (cell_set h.x.c10 (by omega)) (by omega)) (by omega)) (by omega)) (by omega)) (by omega)) (by omega)) (by omega)) (by omega)) (by omega)))⟩
theorem lay11_sans (w : World) (R : Nat) (p : PV) : Sans (fun k => k = R) w (lay11 w R p) := by
  exact ((((((((((((Sans.refl (fun k => k = R) w).stored 0 _).stored 1 _).stored 2 _).stored 3 _).stored 4 _).stored 5 _).stored 6 _).stored 7 _).stored 8 _).stored 9 _).stored 10 _)
end Go.Proofs.YtniicgbkeifnjaaGreatDoor
namespace Go.Proofs.YtniicgbkeifnjaaGreatDoor
open Go.ChangeShapes Go.WideShapes Go.ChangeAt Go.RowKit
set_option linter.unusedVariables false
set_option maxRecDepth 100000
theorem row_cell (w : World) (v : Value) : ∀ (j : Nat) (u : Value), [v][j]? = some u → (w.alloc (.cells #[v] 27)).cell? ((⟨w.heap.size, 0, none⟩ : Addr).add j) = some u := by
  intro j u hu
  have hj : j = 0 := by
    have := (List.getElem?_eq_some_iff.1 hu).1
    simp at this
    exact this
  subst hj
  simp at hu
  subst hu
  simp [Addr.add]
theorem oct0 (w : World) : Octs w none 0 [] := Octs.empty
def pz : PV := ⟨0, 0, 0, 0, 0, 0, 0, 0, none, 0, 0, none, 0, 0, none, 0, 0⟩
theorem mk_start (w : World) (p : PV) : Bx ((w.alloc pz.obj).alloc p.obj) (w.heap.size + 1) p ∧ Bx ((w.alloc pz.obj).alloc p.obj) w.heap.size pz ∧ Below w.heap.size w ((w.alloc pz.obj).alloc p.obj) ∧ ((w.alloc pz.obj).alloc p.obj).heap.size = w.heap.size + 2 := by
  have h1 := bx_new (w.alloc pz.obj) p
  rw [World.size_alloc] at h1
  exact ⟨h1, (bx_new w pz).below (fresh _ _) (by simp), later (fresh _ _) (fresh _ _), by simp⟩
end Go.Proofs.YtniicgbkeifnjaaGreatDoor
namespace Go.Proofs.YtniicgbkeifnjaaGreatDoor
open Go.ChangeShapes Go.WideShapes Go.ChangeAt Go.RowKit
set_option linter.unusedVariables false
set_option maxRecDepth 100000
def RowV (w : World) (x : Value) (l : List Int) : Prop := ∃ ra rc, x = .slice ra l.length rc ∧ Zr w ra l.length l ∧ l.length ≤ rc ∧ rc ≤ maxLen ∧ (ra = none → rc = 0)
def RowA (w : World) (base : Nat) (r : Option Nat) (x : Value) (l : List Int) : Prop := ∃ ra rc, x = .slice ra l.length rc ∧ Zr w ra l.length l ∧ l.length ≤ rc ∧ rc ≤ maxLen ∧ (ra = none → rc = 0) ∧ (∀ ad, ra = some ad → base ≤ ad.block ∧ ad.block < w.heap.size ∧ r ≠ some ad.block)
theorem RowA.v {w : World} {base : Nat} {r : Option Nat} {x : Value} {l : List Int} (h : RowA w base r x l) : RowV w x l := by
  obtain ⟨ra, rc, h1, h2, h3, h4, h5, _⟩ := h
  exact ⟨ra, rc, h1, h2, h3, h4, h5⟩
theorem RowA.sans {F : Nat → Prop} {w w' : World} {base : Nat} {r : Option Nat} {x : Value} {l : List Int} (h : RowA w base r x l) (k : Sans F w w') (hF : ∀ j, base ≤ j → r ≠ some j → ¬ F j) : RowA w' base r x l := by
  obtain ⟨ra, rc, h1, h2, h3, h4, h5, h6⟩ := h
  exact ⟨ra, rc, h1, h2.sans k (fun ad e => hF _ (h6 ad e).1 (h6 ad e).2.2), h3, h4, h5, fun ad e => ⟨(h6 ad e).1, Nat.lt_of_lt_of_le (h6 ad e).2.1 k.size, (h6 ad e).2.2⟩⟩
theorem RowV.sans {F : Nat → Prop} {w w' : World} {x : Value} {l : List Int} (h : RowV w x l) (k : Sans F w w') (hF : ∀ a n c ad, x = .slice a n c → a = some ad → ¬ F ad.block) : RowV w' x l := by
  obtain ⟨ra, rc, h1, h2, h3, h4, h5⟩ := h
  exact ⟨ra, rc, h1, h2.sans k (fun ad e => hF _ _ _ ad h1 e), h3, h4, h5⟩
theorem RowV.below {w w' : World} {x : Value} {l : List Int} (h : RowV w x l) (k : Below w.heap.size w w') : RowV w' x l := h.sans (F := fun _ => False) (Sans.of_below k) (fun _ _ _ _ _ _ e => e)
def Mr (w : World) (a : Option Addr) (n : Nat) (rs : List (List Int)) : Prop := rs.length = n ∧ n ≤ maxLen ∧ (n = 0 ∨ ∃ b off, a = some ⟨b, off, none⟩ ∧ b < w.heap.size ∧ ∀ i, i < n → ∃ x, w.cell? ⟨b, off + i, none⟩ = some x ∧ RowV w x (rs.getD i []))
theorem Mr.below {w w' : World} {a : Option Addr} {n : Nat} {rs : List (List Int)} (h : Mr w a n rs) (k : Below w.heap.size w w') : Mr w' a n rs := by
  obtain ⟨h1, h2, h3⟩ := h
  refine ⟨h1, h2, ?_⟩
  rcases h3 with h3 | ⟨b, off, e, hlt, hc⟩
  · exact .inl h3
  · refine .inr ⟨b, off, e, Nat.lt_of_lt_of_le hlt k.size, fun i hi => ?_⟩
    obtain ⟨x, hx, hv⟩ := hc i hi
    exact ⟨x, (k.cell (p := ⟨b, off + i, none⟩) hlt).trans hx, hv.below k⟩
theorem Mr.at {w : World} {a : Option Addr} {n : Nat} {rs : List (List Int)} (h : Mr w a n rs) {k : Nat} (hk : k < n) : ∃ b off ra rc, a = some ⟨b, off, none⟩ ∧ w.cell? ⟨b, off + k, none⟩ = some (.slice ra (rs.getD k []).length rc) ∧ Zr w ra (rs.getD k []).length (rs.getD k []) ∧ (rs.getD k []).length ≤ rc ∧ rc ≤ maxLen ∧ (ra = none → rc = 0) := by
  rcases h.2.2 with h0 | ⟨b, off, e, hlt, hc⟩
  · omega
  · obtain ⟨x, hx, ra, rc, h1, h2, h3, h4, h5⟩ := hc k hk
    subst h1
    exact ⟨b, off, ra, rc, e, hx, h2, h3, h4, h5⟩
theorem Mr.lr {w : World} {a : Option Addr} {n : Nat} {rs : List (List Int)} (h : Mr w a n rs) : Lr w a n (rs.map List.length) := by
  obtain ⟨h1, h2, h3⟩ := h
  refine ⟨by rw [List.length_map]; exact h1, h2, ?_⟩
  rcases h3 with h3 | ⟨b, off, e, hlt, hc⟩
  · exact .inl h3
  · refine .inr ⟨b, off, e, hlt, fun i hi => ?_⟩
    obtain ⟨x, hx, ra, rc, e1, h2, h3, h4, h5⟩ := hc i hi
    have hg : (rs.map List.length).getD i 0 = (rs.getD i []).length := by
      rw [List.getD_eq_getElem?_getD, List.getElem?_map, List.getD_eq_getElem?_getD, List.getElem?_eq_getElem (show i < rs.length by omega)]
      rfl
    rw [hg]
    subst e1
    exact ⟨ra, rc, hx, h3, h4, h5⟩
structure Rb (w : World) (base : Nat) (v : Value) (k : Nat) (rs : List (List Int)) (vs : List Value) : Prop where
  own : w.ownsRow base 27 1 v k vs
  lv : vs.length = k
  lr : rs.length = k
  row : ∀ i, i < k → RowA w base v.ownBlock (vs.getD i undef) (rs.getD i [])
theorem Rb.nil (w : World) (base : Nat) : Rb w base (.slice none 0 0) 0 [] [] := ⟨World.ownsRow_nil _ _ _ _, rfl, rfl, fun i hi => by omega⟩
theorem Rb.sans {F : Nat → Prop} {w w' : World} {base : Nat} {v : Value} {k : Nat} {rs : List (List Int)} {vs : List Value} (h : Rb w base v k rs vs) (s : Sans F w w') (hF : ∀ j, base ≤ j → ¬ F j) : Rb w' base v k rs vs :=
  ⟨owns_sans h.own s hF, h.lv, h.lr, fun i hi => (h.row i hi).sans s (fun j hj _ => hF j hj)⟩
theorem getD_snoc_lt {α : Type} (l : List α) (x d : α) {i : Nat} (h : i < l.length) : (l ++ [x]).getD i d = l.getD i d := by
  rw [List.getD_eq_getElem?_getD, List.getElem?_append_left h, List.getD_eq_getElem?_getD]
theorem getD_snoc_eq {α : Type} (l : List α) (x d : α) : (l ++ [x]).getD l.length d = x := by
  rw [List.getD_eq_getElem?_getD, List.getElem?_append_right (Nat.le_refl _)]
  simp
theorem Rb.push {w w' : World} {o : Obj} {base : Nat} {v v' x : Value} {k : Nat} {rs : List (List Int)} {vs : List Value} {l : List Int} (h : Rb w base v k rs vs) (hx : RowA w base v.ownBlock x l) (hown : w'.ownsRow base 27 1 v' (k + 1) (vs ++ [x])) (hg : (w.alloc o).grownBy w' v.ownBlock) (hat : v'.ownBlock = v.ownBlock ∨ v'.ownBlock = some (w.alloc o).heap.size) : Rb w' base v' (k + 1) (rs ++ [l]) (vs ++ [x]) := by
  have s : Sans (fun j => v.ownBlock = some j) w w' := (Sans.alloc w o).then (Sans.of_grown hg (fun j e => e))
  have keep : ∀ {x : Value} {l : List Int}, RowA w base v.ownBlock x l → RowA w' base v'.ownBlock x l := by
    intro x l hr
    obtain ⟨ra, rc, h1, h2, h3, h4, h5, h6⟩ := hr
    refine ⟨ra, rc, h1, h2.sans s (fun ad e hb => (h6 ad e).2.2 hb), h3, h4, h5, fun ad e => ⟨(h6 ad e).1, Nat.lt_of_lt_of_le (h6 ad e).2.1 s.size, ?_⟩⟩
    rcases hat with e2 | e2
    · rw [e2]; exact (h6 ad e).2.2
    · rw [e2]
      intro e3
      have := (h6 ad e).2.1
      simp only [World.size_alloc, Option.some.injEq] at e3
      omega
  refine ⟨hown, by rw [List.length_append, h.lv]; rfl, by rw [List.length_append, h.lr]; rfl, fun i hi => ?_⟩
  by_cases e : i < k
  · rw [getD_snoc_lt vs x undef (by rw [h.lv]; exact e), getD_snoc_lt rs l [] (by rw [h.lr]; exact e)]
    exact keep (h.row i e)
  · obtain rfl : i = k := by omega
    have e1 := getD_snoc_eq vs x undef
    have e2 := getD_snoc_eq rs l []
    rw [h.lv] at e1
    rw [h.lr] at e2
    rw [e1, e2]
    exact keep hx
theorem mr_of_rb {w : World} {base : Nat} {v : Value} {k : Nat} {rs : List (List Int)} {vs : List Value} (h : Rb w base v k rs vs) : ∃ a cap, v = .slice a k cap ∧ Mr w a k rs ∧ k ≤ cap ∧ cap ≤ maxLen ∧ (a = none → cap = 0) ∧ (∀ ad, a = some ad → base ≤ ad.block) := by
  have hl := h.lr
  rcases h.own.2 with ⟨hv', h0⟩ | ⟨g, cap, cur, hv', hb, hg, hnc, hcm, hcs, htake⟩
  · subst hv'
    subst h0
    exact ⟨none, 0, rfl, ⟨hl, by unfold maxLen; omega, .inl rfl⟩, Nat.le_refl _, Nat.zero_le _, fun _ => rfl, fun ad e => by cases e⟩
  · subst hv'
    have hlt : g < w.heap.size := by
      rcases Nat.lt_or_ge g w.heap.size with h' | h'
      · exact h'
      · simp [Array.getElem?_eq_none h'] at hg
    refine ⟨some ⟨g, 0, none⟩, cap, rfl, ⟨hl, by omega, .inr ⟨g, 0, rfl, hlt, fun i hi => ?_⟩⟩, hnc, hcm, (fun e => by cases e), fun ad e => by cases e; exact hb⟩
    have hv := h.lv
    have hc := h.own.cellAt i (by omega)
    rw [List.getElem?_eq_getElem (by omega)] at hc
    have hr := (h.row i hi).v
    rw [List.getD_eq_getElem?_getD, List.getElem?_eq_getElem (show i < vs.length by omega)] at hr
    rw [Nat.zero_add]
    exact ⟨_, hc, hr⟩
structure Laid (base : Nat) (p : PV) (ps ws : List Int) (q : PV) (w' : World) : Prop where
  nodes : q.nodes = ((ps.length + 1 : Nat) : Int)
  lanes : q.lanes = p.lanes
  room : q.room = p.room
  queue : q.queue = p.queue
  rounds : q.rounds = p.rounds
  every : q.every = p.every
  bag : q.bag = p.bag
  start : q.start = p.start
  he : w'.ownsRow base 43 2 (.slice q.ea q.en q.ec) (Tree.edges ps).length (pcells (Tree.edges ps))
  hw : w'.ownsRow base 3 1 (.slice q.wa q.wn q.wc) ws.length (zcells ws)
  hn : ∃ vs, Rb w' base (.slice q.na q.nn q.nc) (Tree.rows ps).length (Tree.rows ps) vs
theorem Rb.mono {w : World} {base base' : Nat} {v : Value} {k : Nat} {rs : List (List Int)} {vs : List Value} (h : Rb w base v k rs vs) (hb : base' ≤ base) : Rb w base' v k rs vs :=
  ⟨owns_mono h.own hb, h.lv, h.lr, fun i hi => by
    obtain ⟨ra, rc, h1, h2, h3, h4, h5, h6⟩ := h.row i hi
    exact ⟨ra, rc, h1, h2, h3, h4, h5, fun ad e => ⟨Nat.le_trans hb (h6 ad e).1, (h6 ad e).2⟩⟩⟩
theorem Laid.sans {F : Nat → Prop} {base : Nat} {p q : PV} {ps ws : List Int} {w w' : World} (h : Laid base p ps ws q w) (s : Sans F w w') (hF : ∀ j, base ≤ j → ¬ F j) : Laid base p ps ws q w' := by
  obtain ⟨vs, hv⟩ := h.hn
  exact ⟨h.nodes, h.lanes, h.room, h.queue, h.rounds, h.every, h.bag, h.start, owns_sans h.he s hF, owns_sans h.hw s hF, vs, hv.sans s hF⟩
theorem Laid.below {base : Nat} {p q : PV} {ps ws : List Int} {w w' : World} (h : Laid base p ps ws q w) (k : Below w.heap.size w w') : Laid base p ps ws q w' := h.sans (F := fun _ => False) (Sans.of_below k) (fun _ _ e => e)
theorem Laid.pr {base : Nat} {p q : PV} {ps ws : List Int} {w : World} (h : Laid base p ps ws q w) : Pr w q.ea q.en (Tree.edges ps) ∧ q.en ≤ q.ec ∧ q.ec ≤ maxLen ∧ (q.ea = none → q.ec = 0) := by
  obtain ⟨a, cap, e, hz, h1, h2, h3, _⟩ := pr_of_owns h.he
  simp only [Value.slice.injEq] at e
  obtain ⟨e1, e2, e3⟩ := e
  rw [e1, e2, e3]
  exact ⟨hz, h1, h2, h3⟩
theorem Laid.mr {base : Nat} {p q : PV} {ps ws : List Int} {w : World} (h : Laid base p ps ws q w) : Mr w q.na q.nn (Tree.rows ps) ∧ q.nn ≤ q.nc ∧ q.nc ≤ maxLen ∧ (q.na = none → q.nc = 0) := by
  obtain ⟨vs, hv⟩ := h.hn
  obtain ⟨a, cap, e, hz, h1, h2, h3, _⟩ := mr_of_rb hv
  simp only [Value.slice.injEq] at e
  obtain ⟨e1, e2, e3⟩ := e
  rw [e1, e2, e3]
  exact ⟨hz, h1, h2, h3⟩
end Go.Proofs.YtniicgbkeifnjaaGreatDoor
namespace Go.Proofs.YtniicgbkeifnjaaGreatDoor
open Go.ChangeShapes Go.WideShapes Go.ChangeAt Go.RowKit
set_option linter.unusedVariables false
set_option maxRecDepth 100000
structure PlN (w : World) (p : PV) (es : List (Int × Int)) (ws : List Int) (rs : List (List Int)) : Prop where
  pl : Pl w p es ws (rs.map List.length)
  mr : Mr w p.na p.nn rs
  ni : ∀ r ∈ rs, ∀ x ∈ r, I64 x
theorem PlN.below {w w' : World} {p : PV} {es : List (Int × Int)} {ws : List Int} {rs : List (List Int)} (h : PlN w p es ws rs) (k : Below w.heap.size w w') : PlN w' p es ws rs := ⟨h.pl.below k, h.mr.below k, h.ni⟩
structure MayN (p : PV) (es : List (Int × Int)) (rs : List (List Int)) (n : Nat) : Prop where
  nodes : p.nodes = (n : Int)
  two : 2 ≤ n ∧ n ≤ 6
  rows : rs.length = n
  row : ∀ i, i < n → (rs.getD i []).length = n
  good : ∀ e ∈ es, 0 ≤ e.1 ∧ e.1 < e.2 ∧ e.2 < (n : Int)
theorem may_n {p : PV} {es : List (Int × Int)} {ws : List Int} {rs : List (List Int)} (h : Plan.may p.num es ws (rs.map List.length) = true) : ∃ n, MayN p es rs n := by
  unfold Plan.may at h
  simp only [Bool.and_eq_true, decide_eq_true_eq, List.all_eq_true] at h
  obtain ⟨⟨⟨⟨⟨h1, h2⟩, _⟩, _⟩, h5⟩, h6⟩ := h
  unfold Plan.fine at h1
  simp only [Bool.and_eq_true] at h1
  have hb := h1.1.1.1.1.1.1
  unfold Plan.bnd PV.num at hb
  simp only [Bool.and_eq_true, decide_eq_true_eq] at hb
  obtain ⟨n, hn⟩ := Int.eq_ofNat_of_zero_le (show 0 ≤ p.nodes by omega)
  have h5' : ((rs.map List.length).length : Int) = p.nodes := h5
  rw [List.length_map] at h5'
  refine ⟨n, hn, by omega, by omega, fun i hi => ?_, fun e he => ?_⟩
  · have hl : i < rs.length := by omega
    have h7 := h6 (rs[i]).length (List.mem_map.2 ⟨_, List.getElem_mem hl, rfl⟩)
    have h7' : (((rs[i]).length : Nat) : Int) = p.nodes := h7
    rw [List.getD_eq_getElem?_getD, List.getElem?_eq_getElem hl]
    simp only [Option.getD_some]
    omega
  · have h8 := ((Plan.edgesOk_iff _ es).1 h2).1 e he
    unfold Plan.Good at h8
    have : (PV.num p).nodes = (n : Int) := hn
    rw [this] at h8
    exact h8
theorem MayN.in_bes {p : PV} {es : List (Int × Int)} {rs : List (List Int)} {n : Nat} (h : MayN p es rs n) {v u : Int} (hu : u ∈ Plan.bes es v) : 0 ≤ u ∧ u < (n : Int) := by
  obtain ⟨_, h1 | h1⟩ := (Plan.mem_bes es v u).1 hu
  · have := h.good _ h1
    simp only at this
    omega
  · have := h.good _ h1
    simp only at this
    omega
theorem PlN.next {w : World} {p : PV} {es : List (Int × Int)} {ws : List Int} {rs : List (List Int)} {n : Nat} (h : PlN w p es ws rs) (hm : MayN p es rs n) {v u : Int} (hv : 0 ≤ v ∧ v < (n : Int)) (hu : 0 ≤ u ∧ u < (n : Int)) :
    ∃ b off rb ro rc, p.na = some ⟨b, off, none⟩ ∧ p.nn = n ∧ w.cell? ⟨b, off + v.toNat, none⟩ = some (.slice (some ⟨rb, ro, none⟩) n rc) ∧ w.cell? ⟨rb, ro + u.toNat, none⟩ = some (.int .i64 (Route.nx rs v u)) ∧ I64 (Route.nx rs v u) := by
  have hnn : p.nn = n := by rw [← h.mr.1]; exact hm.rows
  obtain ⟨b, off, ra, rc, e, hc, hz, _, _, _⟩ := h.mr.at (k := v.toNat) (by omega)
  have hl := hm.row v.toNat (by omega)
  rw [hl] at hc hz
  obtain ⟨rb, ro, e2, hc2⟩ := hz.at (k := u.toNat) (by omega)
  subst e2
  refine ⟨b, off, rb, ro, rc, e, hnn, hc, hc2, ?_⟩
  have h1 : v.toNat < rs.length := by have := hm.rows; omega
  have h2 : (rs.getD v.toNat []) ∈ rs := by
    rw [List.getD_eq_getElem?_getD, List.getElem?_eq_getElem h1]
    exact List.getElem_mem h1
  refine h.ni _ h2 _ ?_
  unfold Route.nx
  obtain ⟨r, hr⟩ : ∃ r, rs.getD v.toNat [] = r := ⟨_, rfl⟩
  rw [hr] at hl ⊢
  rw [List.getD_eq_getElem?_getD, List.getElem?_eq_getElem (show u.toNat < r.length by omega)]
  exact List.getElem_mem _
namespace Route
def waitAt (rs : List (List Int)) (a1 a2 b1 b2 : Int) (k : Nat) : Bool := decide (a2 = b1) && (decide ((k : Int) ≠ a2) && decide ((k : Int) ≠ a1) && decide (nx rs a1 k = a2) && decide (nx rs a2 k = b2))
theorem wait_at (N : Nat) (rs : List (List Int)) (a b : Int × Int) : wait N rs a b = (List.range N).any (waitAt rs a.1 a.2 b.1 b.2) := by
  unfold wait waitAt
  by_cases h : a.2 = b.1
  · simp [h]
  · simp [h]
theorem wait_yes {N : Nat} {rs : List (List Int)} {a b : Int × Int} {k : Nat} (hk : k < N) (h : waitAt rs a.1 a.2 b.1 b.2 k = true) : wait N rs a b = true := by
  rw [wait_at, List.any_eq_true]
  exact ⟨k, List.mem_range.2 hk, h⟩
theorem wait_no {N : Nat} {rs : List (List Int)} {a b : Int × Int} (h : ∀ k, k < N → waitAt rs a.1 a.2 b.1 b.2 k = false) : wait N rs a b = false := by
  rw [wait_at, List.any_eq_false]
  intro k hk
  rw [h k (List.mem_range.1 hk)]
  simp
end Route
end Go.Proofs.YtniicgbkeifnjaaGreatDoor
namespace Go.Proofs.YtniicgbkeifnjaaGreatDoor
open Go.ChangeShapes Go.WideShapes Go.ChangeAt Go.RowKit
set_option linter.unusedVariables false
set_option maxRecDepth 100000
theorem owns_s1 {F : Nat → Prop} {w w' : World} {base n size : Nat} {e : TypeId} {v : Value} {xs : List Value} (h : w.ownsRow base e size v n xs) (s : Sans F w w') (hn : ∀ j, v.ownBlock = some j → ¬ F j) : w'.ownsRow base e size v n xs := by
  refine ⟨h.1, ?_⟩
  rcases h.2 with h0 | ⟨g, cap, cur, rfl, hb, hg, r⟩
  · exact .inl h0
  · exact .inr ⟨g, cap, cur, rfl, hb, (s.block g (Array.getElem?_eq_some_iff.1 hg).1 (hn g rfl)).trans hg, r⟩
theorem zcells_set1 (S : List Int) (k : Nat) (z : Int) : (zcells S).set k (.int .i64 z) = zcells (S.set k z) := (List.map_set ..).symm
def RowG (w : World) (base g : Nat) (x : Value) (l : List Int) : Prop := ∃ cap, x = .slice (some ⟨g, 0, none⟩) l.length cap ∧ w.ownsRow base 3 1 (.slice (some ⟨g, 0, none⟩) l.length cap) l.length (zcells l)
theorem RowG.lt {w : World} {base g : Nat} {x : Value} {l : List Int} (h : RowG w base g x l) : base ≤ g ∧ g < w.heap.size := by
  obtain ⟨cap, _, ho⟩ := h
  exact ho.lt g rfl
theorem RowG.keep {F : Nat → Prop} {w w' : World} {base g : Nat} {x : Value} {l : List Int} (h : RowG w base g x l) (s : Sans F w w') (hF : ¬ F g) : RowG w' base g x l := by
  obtain ⟨cap, e, ho⟩ := h
  exact ⟨cap, e, owns_s1 ho s (fun j ej => by simp only [Value.ownBlock, Option.some.injEq] at ej; subst ej; exact hF)⟩
theorem RowG.mono {w : World} {base base' g : Nat} {x : Value} {l : List Int} (h : RowG w base g x l) (hb : base' ≤ base) : RowG w base' g x l := by
  obtain ⟨cap, e, ho⟩ := h
  exact ⟨cap, e, owns_mono ho hb⟩
structure Rw (w : World) (base : Nat) (v : Value) (k : Nat) (rs : List (List Int)) (vs : List Value) (gs : List Nat) : Prop where
  own : w.ownsRow base 27 1 v k vs
  lv : vs.length = k
  lr : rs.length = k
  lg : gs.length = k
  row : ∀ i, i < k → RowG w base (gs.getD i 0) (vs.getD i undef) (rs.getD i []) ∧ v.ownBlock ≠ some (gs.getD i 0)
  apart : gs.Nodup
theorem Rw.nil (w : World) (base : Nat) : Rw w base (.slice none 0 0) 0 [] [] [] := ⟨World.ownsRow_nil _ _ _ _, rfl, rfl, rfl, fun i hi => by omega, List.nodup_nil⟩
theorem Rw.sans {F : Nat → Prop} {w w' : World} {base : Nat} {v : Value} {k : Nat} {rs : List (List Int)} {vs : List Value} {gs : List Nat} (h : Rw w base v k rs vs gs) (s : Sans F w w') (hF : ∀ j, base ≤ j → ¬ F j) : Rw w' base v k rs vs gs :=
  ⟨owns_sans h.own s hF, h.lv, h.lr, h.lg, fun i hi => ⟨(h.row i hi).1.keep s (hF _ (h.row i hi).1.lt.1), (h.row i hi).2⟩, h.apart⟩
theorem Rw.mono {w : World} {base base' : Nat} {v : Value} {k : Nat} {rs : List (List Int)} {vs : List Value} {gs : List Nat} (h : Rw w base v k rs vs gs) (hb : base' ≤ base) : Rw w base' v k rs vs gs :=
  ⟨owns_mono h.own hb, h.lv, h.lr, h.lg, fun i hi => ⟨(h.row i hi).1.mono hb, (h.row i hi).2⟩, h.apart⟩
theorem Rw.rb {w : World} {base : Nat} {v : Value} {k : Nat} {rs : List (List Int)} {vs : List Value} {gs : List Nat} (h : Rw w base v k rs vs gs) : Rb w base v k rs vs := by
  refine ⟨h.own, h.lv, h.lr, fun i hi => ?_⟩
  obtain ⟨⟨cap, e, ho⟩, hne⟩ := h.row i hi
  obtain ⟨a, cap', e', hz, h1, h2, h3, _⟩ := zr_of_owns ho
  simp only [Value.slice.injEq] at e'
  obtain ⟨e1, _, e3⟩ := e'
  subst e1 e3
  exact ⟨_, _, e, hz, h1, h2, h3, fun ad e => by cases e; exact ⟨(ho.lt _ rfl).1, (ho.lt _ rfl).2, hne⟩⟩
theorem getDn_snoc_lt (l : List Nat) (x : Nat) {i : Nat} (h : i < l.length) : (l ++ [x]).getD i 0 = l.getD i 0 := by
  rw [List.getD_eq_getElem?_getD, List.getElem?_append_left h, List.getD_eq_getElem?_getD]
theorem getDn_snoc_eq (l : List Nat) (x : Nat) : (l ++ [x]).getD l.length 0 = x := by
  rw [List.getD_eq_getElem?_getD, List.getElem?_append_right (Nat.le_refl _)]
  simp
theorem Rw.push {w w' : World} {o : Obj} {base N : Nat} {v v' x : Value} {k : Nat} {rs : List (List Int)} {vs : List Value} {gs : List Nat} {l : List Int} (h : Rw w base v k rs vs gs) (hlow : ∀ g ∈ gs, g < N) (hv : ∀ g, v.ownBlock = some g → g < N) (hx : w.ownsRow N 3 1 x l.length (zcells l)) (hb : base ≤ N) (h0 : 0 < l.length)
    (hown : w'.ownsRow base 27 1 v' (k + 1) (vs ++ [x])) (hg : (w.alloc o).grownBy w' v.ownBlock) (hat : v'.ownBlock = v.ownBlock ∨ v'.ownBlock = some (w.alloc o).heap.size) : ∃ g, Rw w' base v' (k + 1) (rs ++ [l]) (vs ++ [x]) (gs ++ [g]) := by
  have s : Sans (fun j => v.ownBlock = some j) w w' := (Sans.alloc w o).then (Sans.of_grown hg (fun j e => e))
  have keep : ∀ {g : Nat} {x : Value} {l : List Int}, RowG w base g x l → v.ownBlock ≠ some g → RowG w' base g x l ∧ v'.ownBlock ≠ some g := by
    intro g x l hr hne
    refine ⟨hr.keep s hne, ?_⟩
    rcases hat with e | e
    · rw [e]; exact hne
    · rw [e, World.size_alloc]
      intro e2
      have := hr.lt
      simp only [Option.some.injEq] at e2
      omega
  rcases hx.2 with ⟨_, h1⟩ | ⟨g, cap, cur, e, hb2, hg2, r⟩
  · omega
  · subst e
    have hxg : RowG w base g (.slice (some ⟨g, 0, none⟩) l.length cap) l := ⟨cap, rfl, owns_mono hx hb⟩
    have hvg : v.ownBlock ≠ some g := fun e => by have := hv g e; omega
    refine ⟨g, hown, by rw [List.length_append, h.lv]; rfl, by rw [List.length_append, h.lr]; rfl, by rw [List.length_append, h.lg]; rfl, fun i hi => ?_, ?_⟩
    · by_cases e : i < k
      · rw [getDn_snoc_lt gs g (by rw [h.lg]; exact e), getD_snoc_lt vs _ undef (by rw [h.lv]; exact e), getD_snoc_lt rs l [] (by rw [h.lr]; exact e)]
        exact keep (h.row i e).1 (h.row i e).2
      · obtain rfl : i = k := by omega
        have e1 := getD_snoc_eq vs (.slice (some ⟨g, 0, none⟩) l.length cap) undef
        have e2 := getD_snoc_eq rs l []
        have e3 := getDn_snoc_eq gs g
        rw [h.lv] at e1
        rw [h.lr] at e2
        rw [h.lg] at e3
        rw [e1, e2, e3]
        exact keep hxg hvg
    · rw [List.nodup_append]
      refine ⟨h.apart, by simp, fun a ha b hb => ?_⟩
      have := hlow a ha
      simp only [List.mem_singleton] at hb
      omega
theorem Rw.low {w : World} {base : Nat} {v : Value} {k : Nat} {rs : List (List Int)} {vs : List Value} {gs : List Nat} (h : Rw w base v k rs vs gs) : ∀ g ∈ gs, g < w.heap.size := by
  intro g hg
  obtain ⟨i, hi, rfl⟩ := List.getElem_of_mem hg
  have hr := (h.row i (by rw [← h.lg]; exact hi)).1.lt.2
  rw [List.getD_eq_getElem?_getD, List.getElem?_eq_getElem hi] at hr
  exact hr
theorem Rw.high {w : World} {base : Nat} {v : Value} {k : Nat} {rs : List (List Int)} {vs : List Value} {gs : List Nat} (h : Rw w base v k rs vs gs) : ∀ g ∈ gs, base ≤ g := by
  intro g hg
  obtain ⟨i, hi, rfl⟩ := List.getElem_of_mem hg
  have hr := (h.row i (by rw [← h.lg]; exact hi)).1.lt.1
  rw [List.getD_eq_getElem?_getD, List.getElem?_eq_getElem hi] at hr
  exact hr
theorem Rw.mem {w : World} {base : Nat} {v : Value} {k : Nat} {rs : List (List Int)} {vs : List Value} {gs : List Nat} (h : Rw w base v k rs vs gs) {t : Nat} (ht : t < k) : gs.getD t 0 ∈ gs := by
  have hl := h.lg
  rw [List.getD_eq_getElem?_getD, List.getElem?_eq_getElem (show t < gs.length by omega)]
  exact List.getElem_mem _
theorem getD_set_ne {α : Type} {l : List α} {i j : Nat} {x d : α} (h : i ≠ j) : (l.set i x).getD j d = l.getD j d := by
  rw [List.getD_eq_getElem?_getD, List.getD_eq_getElem?_getD, List.getElem?_set_ne h]
theorem getD_set_eq {α : Type} {l : List α} {i : Nat} {x d : α} (h : i < l.length) : (l.set i x).getD i d = x := by
  rw [List.getD_eq_getElem?_getD, List.getElem?_set_self h]
  rfl
end Go.Proofs.YtniicgbkeifnjaaGreatDoor
namespace Go.Proofs.YtniicgbkeifnjaaGreatDoor.Route
set_option linter.unusedVariables false
set_option maxRecDepth 100000
theorem set_get {S : List Int} {k j : Nat} {x : Int} (hk : k < S.length) : (S.set k x).getD j 0 = if j = k then x else S.getD j 0 := by
  rw [List.getD_eq_getElem?_getD, List.getD_eq_getElem?_getD]
  by_cases e : j = k
  · subst e; rw [if_pos rfl, List.getElem?_set_self hk]; rfl
  · rw [if_neg e, List.getElem?_set_ne (by omega)]
def zs (M : List Int) : Nat := M.countP (fun x => decide (x = 0))
theorem zs_set {x : Int} : ∀ (S : List Int) (k : Nat), k < S.length → zs (S.set k x) + (if S.getD k 0 = 0 then 1 else 0) = zs S + (if x = 0 then 1 else 0)
  | [], k, h => by simp at h
  | y :: s, 0, h => by
    unfold zs
    simp only [List.set_cons_zero, List.countP_cons, List.getD_cons_zero, decide_eq_true_eq]
    omega
  | y :: s, k + 1, h => by
    have ih := zs_set (x := x) s k (by simpa using h)
    unfold zs at ih ⊢
    simp only [List.set_cons_succ, List.countP_cons, List.getD_cons_succ, decide_eq_true_eq] at ih ⊢
    omega
structure Dfs (W : List (List Int)) (M : List Int) : Prop where
  len : M.length = W.length
  val : ∀ k, M.getD k 0 = 0 ∨ M.getD k 0 = 1 ∨ M.getD k 0 = 2
  shut : ∀ i, M.getD i 0 = 2 → ∀ k, Edge W i k → M.getD k 0 = 2
  calm : ∀ i, M.getD i 0 = 2 → ¬ Plus W i i
theorem Dfs.plus {W : List (List Int)} {M : List Int} (h : Dfs W M) {i k : Nat} (hi : M.getD i 0 = 2) (hk : Plus W i k) : M.getD k 0 = 2 := by
  obtain ⟨n, hn⟩ := hk
  have key : ∀ n k, steps W n i k → M.getD k 0 = 2 := by
    intro n
    induction n with
    | zero => rintro k rfl; exact hi
    | succ n ih => rintro k ⟨j, hj, e⟩; exact h.shut j (ih j hj) k e
  exact key _ k hn
theorem dfs_start (W : List (List Int)) : Dfs W (List.replicate W.length 0) := by
  have h0 : ∀ k, (List.replicate W.length (0 : Int)).getD k 0 = 0 := fun k => by
    rw [List.getD_eq_getElem?_getD, List.getElem?_replicate]
    split <;> rfl
  exact ⟨List.length_replicate, fun k => .inl (h0 k), fun i hi => (by rw [h0] at hi; cases hi), fun i hi => (by rw [h0] at hi; cases hi)⟩
theorem Dfs.open1 {W : List (List Int)} {M : List Int} (h : Dfs W M) {p : Nat} (hp : p < W.length) (h0 : M.getD p 0 = 0) : Dfs W (M.set p 1) := by
  have hl : p < M.length := by rw [h.len]; exact hp
  refine ⟨by rw [List.length_set]; exact h.len, fun k => ?_, fun i hi k e => ?_, fun i hi => ?_⟩
  · rw [set_get hl]
    split
    · exact .inr (.inl rfl)
    · exact h.val k
  · rw [set_get hl] at hi ⊢
    by_cases e1 : i = p
    · rw [if_pos e1] at hi; cases hi
    · rw [if_neg e1] at hi
      have hk := h.shut i hi k e
      rw [if_neg (by rintro rfl; rw [h0] at hk; cases hk)]
      exact hk
  · rw [set_get hl] at hi
    by_cases e1 : i = p
    · rw [if_pos e1] at hi; cases hi
    · rw [if_neg e1] at hi
      exact h.calm i hi
theorem Dfs.shut2 {W : List (List Int)} {M : List Int} (h : Dfs W M) {p : Nat} (hp : p < W.length) (h1 : M.getD p 0 = 1) (hs : ∀ k, Edge W p k → M.getD k 0 = 2) : Dfs W (M.set p 2) := by
  have hl : p < M.length := by rw [h.len]; exact hp
  refine ⟨by rw [List.length_set]; exact h.len, fun k => ?_, fun i hi k e => ?_, fun i hi => ?_⟩
  · rw [set_get hl]
    split
    · exact .inr (.inr rfl)
    · exact h.val k
  · rw [set_get hl]
    split
    · rfl
    · rw [set_get hl] at hi
      by_cases e1 : i = p
      · subst e1; exact hs k e
      · rw [if_neg e1] at hi
        exact h.shut i hi k e
  · rw [set_get hl] at hi
    by_cases e1 : i = p
    · subst e1
      intro hc
      obtain ⟨n, hn⟩ := hc
      obtain ⟨j, e, hj⟩ := steps_first n i i hn
      have h2 := hs j e
      cases n with
      | zero =>
        obtain rfl : j = i := hj
        rw [h1] at h2; cases h2
      | succ n =>
        have := h.plus h2 ⟨n, hj⟩
        rw [h1] at this; cases this
    · rw [if_neg e1] at hi
      exact h.calm i hi
structure Step (W : List (List Int)) (M M' : List Int) : Prop where
  dfs : Dfs W M'
  opn : ∀ i, M'.getD i 0 = 1 ↔ M.getD i 0 = 1
  shut : ∀ i, M.getD i 0 = 2 → M'.getD i 0 = 2
  zeros : zs M' ≤ zs M
theorem Step.refl {W : List (List Int)} {M : List Int} (h : Dfs W M) : Step W M M := ⟨h, fun _ => Iff.rfl, fun _ h => h, Nat.le_refl _⟩
theorem Step.trans {W : List (List Int)} {A B C : List Int} (h : Step W A B) (k : Step W B C) : Step W A C :=
  ⟨k.dfs, fun i => (k.opn i).trans (h.opn i), fun i hi => k.shut i (h.shut i hi), Nat.le_trans k.zeros h.zeros⟩
theorem Step.close {W : List (List Int)} {M M2 : List Int} (h : Dfs W M) {p : Nat} (hp : p < W.length) (h0 : M.getD p 0 = 0) (s : Step W (M.set p 1) M2) (hs : ∀ k, Edge W p k → M2.getD k 0 = 2) : Step W M (M2.set p 2) ∧ (M2.set p 2).getD p 0 = 2 := by
  have hl : p < M.length := by rw [h.len]; exact hp
  have hl2 : p < M2.length := by rw [s.dfs.len]; exact hp
  have h1 : M2.getD p 0 = 1 := (s.opn p).2 (by rw [set_get hl, if_pos rfl])
  refine ⟨⟨s.dfs.shut2 hp h1 hs, fun i => ?_, fun i hi => ?_, ?_⟩, by rw [set_get hl2, if_pos rfl]⟩
  · rw [set_get hl2]
    by_cases e : i = p
    · subst e
      rw [if_pos rfl, h0]
      exact ⟨fun e => (by cases e), fun e => (by cases e)⟩
    · rw [if_neg e, s.opn i, set_get hl, if_neg e]
  · rw [set_get hl2]
    split
    · rfl
    · rename_i e
      exact s.shut i (by rw [set_get hl, if_neg e]; exact hi)
  · have a := zs_set (x := 2) M2 p hl2
    have b := zs_set (x := 1) M p hl
    have c := s.zeros
    rw [h1] at a
    rw [h0] at b
    simp at a b
    omega
theorem zs_open {W : List (List Int)} {M : List Int} (h : Dfs W M) {p : Nat} (hp : p < W.length) (h0 : M.getD p 0 = 0) : zs (M.set p 1) + 1 = zs M := by
  have b := zs_set (x := 1) M p (by rw [h.len]; exact hp)
  rw [h0] at b
  simp at b
  omega
end Go.Proofs.YtniicgbkeifnjaaGreatDoor.Route
