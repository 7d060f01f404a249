/-
  Contracts and plain facts that the walks lean on (WrrO, RouteMath, TreeMath, RefTreeA). Conditions: none but those that each states.
-/
import Derived.Test.YtniicgbkeifnjaaGreatDoorQ14
namespace Go.Proofs.YtniicgbkeifnjaaGreatDoor
open Go.ChangeShapes Go.WideShapes Go.ChangeAt Go.RowKit
set_option linter.unusedVariables false
set_option maxRecDepth 100000
theorem ints_of_owns {w : World} {base : Nat} {e : TypeId} {v : Value} {l : List Int} (h : w.ownsRow base e 1 v l.length (zcells l)) (hl : 1 ≤ l.length) : ∃ g cap, v = .slice (some ⟨g, 0, none⟩) l.length cap ∧ M.Ints w g l.length (fun k => l.getD k 0) ∧ base ≤ g ∧ g < w.heap.size ∧ l.length ≤ cap ∧ cap ≤ maxLen := by
  rcases h.2 with ⟨hv, h0⟩ | ⟨g, cap, cur, hv, hb, hg, hnc, hcm, hcs, htake⟩
  · omega
  · subst hv
    have hlt : g < w.heap.size := by
      rcases Nat.lt_or_ge g w.heap.size with h' | h'
      · exact h'
      · simp [Array.getElem?_eq_none h'] at hg
    obtain ⟨a, cp, hv2, hz, _⟩ := zr_of_owns h
    cases hv2
    refine ⟨g, cap, rfl, fun k hk => ⟨?_, ?_⟩, hb, hlt, hnc, hcm⟩
    · have := zr_at hz k hk
      rw [Nat.zero_add] at this
      exact this
    · unfold World.frozen?
      dsimp only
      rw [hg]
      simp
def WMade (w0 : World) (n : Nat) (ws : List Int) (q : Nat) (w' : World) : Prop :=
  w0.heap.size ≤ q ∧ ∃ g f, w0.heap.size ≤ g ∧ w0.heap.size ≤ f ∧ Whl w' q g f n (fun k => ws.getD k 0) (fun k => ws.getD k 0) 0 ∧ Below w0.heap.size w0 w'
theorem wok_parts {ws : List Int} (h : Plan.wsOk ws = true) : (1 ≤ ws.length ∧ ws.length ≤ 3) ∧ ∀ k, k < ws.length → 1 ≤ ws.getD k 0 ∧ ws.getD k 0 ≤ 5 := by
  unfold Plan.wsOk at h
  simp only [Bool.and_eq_true, decide_eq_true_eq] at h
  obtain ⟨⟨h2, h1⟩, h3⟩ := h
  refine ⟨⟨h1, h3⟩, fun k hk => ?_⟩
  rw [List.all_eq_true] at h2
  have := h2 (ws.getD k 0) (by rw [List.getD_eq_getElem?_getD, List.getElem?_eq_getElem hk]; exact List.getElem_mem hk)
  unfold Plan.bnd at this
  simp only [Bool.and_eq_true, decide_eq_true_eq] at this
  exact this
theorem wheel_fill {w0 W : World} {q g f n gc : Nat} {ws : List Int} (hok : Plan.wsOk ws = true) (hn : ws.length = n) (hB : Below w0.heap.size w0 W) (c0 : W.cell? ⟨q, 0, none⟩ = some (.slice (some ⟨g, 0, none⟩) n gc)) (c1 : W.cell? ⟨q, 1, none⟩ = some (.slice (some ⟨f, 0, none⟩) n n)) (c2 : W.cell? ⟨q, 2, none⟩ = some (.int .i64 0)) (f2 : W.frozen? ⟨q, 2, none⟩ = false)
    (xs : M.Ints W g n (fun k => ws.getD k 0)) (ls : NRow W f n (fun _ => 0)) (px : q ≠ g) (pf : q ≠ f) (xf : g ≠ f) (bq : w0.heap.size ≤ q) (bg : w0.heap.size ≤ g) (bf : w0.heap.size ≤ f) :
    Calls Tryz.prog 152 #[.pointer (some ⟨q, 0, none⟩)] W fun e W' => e = .returned (.tuple #[]) ∧ WMade w0 n ws q W' := by
  subst hn
  obtain ⟨⟨n1, n3⟩, hb⟩ := wok_parts hok
  have hw : Whl W q g f ws.length (fun k => ws.getD k 0) (fun _ => 0) 0 := ⟨⟨gc, c0⟩, c1, c2, f2, xs, ls, px, pf, xf, n1, n3, by omega, hb, fun _ _ => by omega⟩
  refine (wfill_any hw).mono ?_
  rintro e W' ⟨rfl, hw', hs⟩
  exact ⟨rfl, bq, g, f, bg, bf, hw', hB.trans (hs.below (B := w0.heap.size) hB.size (fun k e => by rw [e]; exact bf))⟩
set_option maxHeartbeats 2000000 in
set_option maxRecDepth 100000 in
theorem wmake_any {w : World} {a : Option Addr} {n c : Nat} {ws : List Int} (h : Zr w a n ws) (hok : Plan.wsOk ws = true) :
    Calls Tryz.prog 91 #[.slice a n c] w fun e w' => ∃ q, e = .returned (.pointer (some ⟨q, 0, none⟩)) ∧ WMade w n ws q w' := by
  have HZ : Hid (Zr w a n ws) := h
  have hln := h.1
  obtain ⟨⟨n1, n3⟩, _⟩ := wok_parts hok
  have hb : ws.all (fun x => Plan.bnd x 1 5) = true := by
    unfold Plan.wsOk at hok
    simp only [Bool.and_eq_true] at hok
    exact hok.1.1
  rw [hln] at n1 n3
  have h1' : ¬ (n : Int) < 1 := by omega
  have h3' : ¬ (3 : Int) < n := by omega
  obtain ⟨b, off, ha, _⟩ := HZ.out.at (k := 0) (by omega)
  subst ha
  have HO : Hid (Plan.wsOk ws = true) := hok
  have HA : Hid (ws.all (fun x => Plan.bnd x 1 5) = true) := hb
  have hn : n ≤ 17592186044416 := by omega
  have hmk := run_make_row' (P := Tryz.prog) 27 3 (.int .i64 0) 8 Tryz.underlying27 infoI rfl .i64 .i64 n (by omega) (by omega)
  clear hb h hok
  go_enter Tryz.func91, Tryz.ntmps91
  go_wp2_with (go_at_call 148; refine (wcont_any HZ.out hn).mono ?_; rintro e w' ⟨rfl, rfl⟩; rw [HA.out])
  go_region_with (go_at_call 145; refine (clone_zr (l := ws) (HZ.out.below (by first | exact (Below.refl _ _).drew | exact ((Below.refl _ _).drew.alloc (Nat.le_refl _) _) | exact ((fresh _ _).drew)) ) hn).mono ?_; rintro e w2 ⟨v2, rfl, hown2, hB2⟩; obtain ⟨g, cap2, rfl, hz2, bg2, lg2, _, _⟩ := ints_of_owns hown2 (by omega))
  all_goals rw [hln] at hz2
  all_goals clear hown2
  all_goals
    first
      | (have hbw : Below w'.heap.size w' w2 := (Below.refl _ w').drew.trans (hB2.mono (Nat.le_refl _))
         have hbg : w'.heap.size ≤ g := bg2
         have HF : Hid (∀ W, W = (w2.alloc (.cells (madeCells #[.int .i64 0] n) 3)).alloc (.cells #[.slice (some ⟨g, 0, none⟩) n cap2, .slice (some ⟨w2.heap.size, 0, none⟩) n n, .int .i64 0] 232) → Calls Tryz.prog 152 #[.pointer (some ⟨w2.heap.size + 1, 0, none⟩)] W fun e W' => e = .returned (.tuple #[]) ∧ WMade w' n ws (w2.heap.size + 1) W') := fun W hW => by
           subst hW
           exact wheel_fill (g := g) (f := w2.heap.size) (gc := cap2) HO.out hln ((hbw.alloc hbw.size _).alloc (Nat.le_trans hbw.size (by simp)) _) (by simp) (by simp) (by simp) (by simp) ((hz2.below (fresh _ _)).below (fresh _ _)) ((NRow.made w2 n).below (fresh _ _)) (by omega) (by omega) (by omega) (by have := hbw.size; omega) hbg (by have := hbw.size; omega)
         clear hz2 hB2 hbw
         go_wp2_with (go_at_call 152; refine (HF.out _ rfl).mono ?_; rintro e w3 ⟨rfl, hB3⟩; have HB3 : Hid (WMade w' n ws (w2.heap.size + 1) w3) := hB3; clear hB3)
         go_ret
         exact ⟨_, rfl, HB3.out⟩)
      | (have hmd : NRow w2 w'.heap.size n (fun _ => 0) := (NRow.made w'.drew n).below (hB2.mono (Nat.le_refl _))
         have hbw : Below w'.heap.size w' w2 := ((Below.refl _ w').drew.alloc (Nat.le_refl _) (.cells (madeCells #[.int .i64 0] n) 3)).trans (hB2.mono (by simp))
         have hbg : w'.heap.size + 1 ≤ g := by simpa using bg2
         have HF : Hid (∀ W, W = w2.alloc (.cells #[.slice (some ⟨g, 0, none⟩) n cap2, .slice (some ⟨w'.heap.size, 0, none⟩) n n, .int .i64 0] 232) → Calls Tryz.prog 152 #[.pointer (some ⟨w2.heap.size, 0, none⟩)] W fun e W' => e = .returned (.tuple #[]) ∧ WMade w' n ws w2.heap.size W') := fun W hW => by
           subst hW
           exact wheel_fill (g := g) (f := w'.heap.size) (gc := cap2) HO.out hln (hbw.alloc hbw.size _) (by simp) (by simp) (by simp) (by simp) (hz2.below (fresh _ _)) (hmd.below (fresh _ _)) (by omega) (by have := hmd.lt; omega) (by omega) hbw.size (by omega) (Nat.le_refl _)
         clear hmd hz2 hB2 hbw
         go_wp2_with (go_at_call 152; refine (HF.out _ rfl).mono ?_; rintro e w3 ⟨rfl, hB3⟩; have HB3 : Hid (WMade w' n ws w2.heap.size w3) := hB3; clear hB3)
         go_ret
         exact ⟨_, rfl, HB3.out⟩)
      | (have hbw : Below w'.heap.size w' w2 := (Below.refl _ w').drew.trans (hB2.mono (Nat.le_refl _))
         have hbg : w'.heap.size ≤ g := bg2
         have HF : Hid (∀ W, W = ((w2.alloc (.cells (madeCells #[.int .i64 0] n) 3)).alloc (.cells #[.slice (some ⟨g, 0, none⟩) n cap2, .slice (some ⟨w2.heap.size, 0, none⟩) n n, .int .i64 0] 232)).drew → Calls Tryz.prog 152 #[.pointer (some ⟨w2.heap.size + 1, 0, none⟩)] W fun e W' => e = .returned (.tuple #[]) ∧ WMade w' n ws (w2.heap.size + 1) W') := fun W hW => by
           subst hW
           exact wheel_fill (g := g) (f := w2.heap.size) (gc := cap2) HO.out hln (((hbw.alloc hbw.size _).alloc (Nat.le_trans hbw.size (by simp)) _).drew) (by simp) (by simp) (by simp) (by simp) (((hz2.below (fresh _ _)).below (fresh _ _)).below (Below.refl _ _).drew) (((NRow.made w2 n).below (fresh _ _)).below (Below.refl _ _).drew) (by omega) (by omega) (by omega) (by have := hbw.size; omega) hbg (by have := hbw.size; omega)
         clear hz2 hB2 hbw
         go_wp2_with (go_at_call 152; refine (HF.out _ rfl).mono ?_; rintro e w3 ⟨rfl, hB3⟩; have HB3 : Hid (WMade w' n ws (w2.heap.size + 1) w3) := hB3; clear hB3)
         go_ret
         exact ⟨_, rfl, HB3.out⟩)
end Go.Proofs.YtniicgbkeifnjaaGreatDoor
namespace Go.Proofs.YtniicgbkeifnjaaGreatDoor.Route
set_option linter.unusedVariables false
set_option maxRecDepth 100000
def nx (rs : List (List Int)) (v w : Int) : Int := (rs.getD v.toNat []).getD w.toNat 0
def isIn (N z : Int) : Bool := decide (0 ≤ z) && decide (z < N)
def go (es : List (Int × Int)) (rs : List (List Int)) (w : Int) : Nat → Int → List Int
  | 0, v => if v = w then [v] else []
  | f + 1, v => if v = w then [v] else if Plan.port es v (nx rs v w) < 0 then [] else if go es rs w f (nx rs v w) = [] then [] else v :: go es rs w f (nx rs v w)
def pathOf (b : Bool) (N : Int) (es : List (Int × Int)) (rs : List (List Int)) (v w : Int) : List Int := if b && isIn N v && isIn N w then go es rs w (N.toNat - 1) v else []
theorem go_self (es : List (Int × Int)) (rs : List (List Int)) (w : Int) : ∀ f, go es rs w f w = [w]
  | 0 => if_pos rfl
  | f + 1 => if_pos rfl
theorem go_zero {es : List (Int × Int)} {rs : List (List Int)} {w v : Int} (h : v ≠ w) : go es rs w 0 v = [] := if_neg h
theorem go_no {es : List (Int × Int)} {rs : List (List Int)} {w v : Int} {f : Nat} (h : v ≠ w) (hp : Plan.port es v (nx rs v w) < 0) : go es rs w f v = [] := by
  cases f with
  | zero => exact if_neg h
  | succ f => unfold go; rw [if_neg h, if_pos hp]
theorem go_on {es : List (Int × Int)} {rs : List (List Int)} {w v : Int} {f : Nat} (h : v ≠ w) (hp : ¬ Plan.port es v (nx rs v w) < 0) : go es rs w (f + 1) v = if go es rs w f (nx rs v w) = [] then [] else v :: go es rs w f (nx rs v w) := by
  rw [go, if_neg h, if_neg hp]
def behind (pre l : List Int) : List Int := if l = [] then [] else pre ++ l
theorem behind_nil (pre : List Int) : behind pre [] = [] := if_pos rfl
theorem behind_self (pre : List Int) (es : List (Int × Int)) (rs : List (List Int)) (w : Int) (f : Nat) : behind pre (go es rs w f w) = pre ++ [w] := by
  unfold behind
  rw [go_self, if_neg (by simp)]
theorem behind_on {es : List (Int × Int)} {rs : List (List Int)} {w v : Int} {f : Nat} (pre : List Int) (h : v ≠ w) (hp : ¬ Plan.port es v (nx rs v w) < 0) : behind pre (go es rs w (f + 1) v) = behind (pre ++ [v]) (go es rs w f (nx rs v w)) := by
  rw [go_on h hp]
  unfold behind
  by_cases e : go es rs w f (nx rs v w) = []
  · rw [if_pos e, if_pos rfl, if_pos e]
  · rw [if_neg e, if_neg (by simp), if_neg e]
    simp
theorem port_pos' {es : List (Int × Int)} {v u : Int} (h : ¬ Plan.port es v u < 0) : u ∈ Plan.bes es v := by
  unfold Plan.port at h
  have key : ∀ (l : List Int) (k : Nat), ¬ Plan.place u l k < 0 → u ∈ l := by
    intro l
    induction l with
    | nil => intro k h; exact absurd (by simp [Plan.place]) h
    | cons y r ih =>
      intro k h
      unfold Plan.place at h
      by_cases e : y = u
      · subst e; simp
      · rw [if_neg e] at h
        exact List.mem_cons_of_mem _ (ih _ h)
  exact key _ _ h
def wait (N : Nat) (rs : List (List Int)) (a b : Int × Int) : Bool := decide (a.2 = b.1) && (List.range N).any fun (w : Nat) => decide ((w : Int) ≠ a.2) && decide ((w : Int) ≠ a.1) && decide (nx rs a.1 w = a.2) && decide (nx rs a.2 w = b.2)
def row (N : Nat) (rs : List (List Int)) (l : List (Int × Int)) (i : Nat) : List Int := ((List.range l.length).filter fun k => wait N rs (l.getD i (0, 0)) (l.getD k (0, 0))).map fun (k : Nat) => (k : Int)
def rowsOf (N : Nat) (rs : List (List Int)) (l : List (Int × Int)) : List (List Int) := (List.range l.length).map (row N rs l)
def waitsOf (b : Bool) (N : Int) (es : List (Int × Int)) (rs : List (List Int)) : List (List Int) := if b then rowsOf N.toNat rs (Plan.hops N es) else []
theorem rowsOf_len (N : Nat) (rs : List (List Int)) (l : List (Int × Int)) : (rowsOf N rs l).length = l.length := by simp [rowsOf]
theorem rowsOf_at {N : Nat} {rs : List (List Int)} {l : List (Int × Int)} {i : Nat} (h : i < l.length) : (rowsOf N rs l).getD i [] = row N rs l i := by
  unfold rowsOf
  rw [List.getD_eq_getElem?_getD, List.getElem?_map, List.getElem?_range h]
  rfl
theorem row_in {N : Nat} {rs : List (List Int)} {l : List (Int × Int)} {i : Nat} {x : Int} (h : x ∈ row N rs l i) : ∃ k : Nat, x = (k : Int) ∧ k < l.length := by
  unfold row at h
  obtain ⟨k, hk, rfl⟩ := List.mem_map.1 h
  exact ⟨k, rfl, List.mem_range.1 (List.mem_filter.1 hk).1⟩
theorem row_len (N : Nat) (rs : List (List Int)) (l : List (Int × Int)) (i : Nat) : (row N rs l i).length ≤ l.length := by
  unfold row
  rw [List.length_map]
  have := List.length_filter_le (fun k => wait N rs (l.getD i (0, 0)) (l.getD k (0, 0))) (List.range l.length)
  rw [List.length_range] at this
  exact this
def Fit (W : List (List Int)) : Prop := ∀ i, i < W.length → ∀ x ∈ W.getD i [], 0 ≤ x ∧ x < (W.length : Int)
theorem rowsOf_fit (N : Nat) (rs : List (List Int)) (l : List (Int × Int)) : Fit (rowsOf N rs l) := by
  intro i hi x hx
  rw [rowsOf_len] at hi
  rw [rowsOf_at hi] at hx
  obtain ⟨k, rfl, hk⟩ := row_in hx
  rw [rowsOf_len]
  omega
def Edge (W : List (List Int)) (i k : Nat) : Prop := i < W.length ∧ (k : Int) ∈ W.getD i []
def steps (W : List (List Int)) : Nat → Nat → Nat → Prop
  | 0, i, k => i = k
  | n + 1, i, k => ∃ j, steps W n i j ∧ Edge W j k
def Plus (W : List (List Int)) (i k : Nat) : Prop := ∃ n, steps W (n + 1) i k
theorem Plus.one {W : List (List Int)} {i k : Nat} (h : Edge W i k) : Plus W i k := ⟨0, i, rfl, h⟩
theorem Plus.step {W : List (List Int)} {i j k : Nat} (h : Plus W i j) (e : Edge W j k) : Plus W i k := by
  obtain ⟨n, h⟩ := h
  exact ⟨n + 1, j, h, e⟩
theorem steps_first {W : List (List Int)} : ∀ (n : Nat) (i k : Nat), steps W (n + 1) i k → ∃ j, Edge W i j ∧ steps W n j k
  | 0, i, k, ⟨j, h1, h2⟩ => by
    obtain rfl : i = j := h1
    exact ⟨k, h2, rfl⟩
  | n + 1, i, k, ⟨j, h1, h2⟩ => by
    obtain ⟨j', e, h⟩ := steps_first n i j h1
    exact ⟨j', e, j, h, h2⟩
theorem Plus.turn {W : List (List Int)} {i : Nat} (h : Plus W i i) : ∃ j, Edge W i j ∧ Plus W j j := by
  obtain ⟨n, h⟩ := h
  obtain ⟨j, e, hs⟩ := steps_first n i i h
  exact ⟨j, e, n, i, hs, e⟩
def peel (W : List (List Int)) : Nat → List Nat → List Nat
  | 0, R => R
  | n + 1, R => peel W n (R.filter fun i => (W.getD i []).any fun k => R.contains k.toNat)
theorem peel_keeps {W : List (List Int)} : ∀ (n : Nat) (R : List Nat), (∀ i, Plus W i i → i ∈ R) → ∀ i, Plus W i i → i ∈ peel W n R
  | 0, R, h, i, hi => h i hi
  | n + 1, R, h, i, hi => by
    refine peel_keeps n _ (fun i hi => ?_) i hi
    rw [List.mem_filter]
    refine ⟨h i hi, ?_⟩
    obtain ⟨j, e, hj⟩ := hi.turn
    rw [List.any_eq_true]
    exact ⟨(j : Int), e.2, by simpa using h j hj⟩
theorem calm {W : List (List Int)} {n : Nat} (h : peel W n (List.range W.length) = []) (i : Nat) : ¬ Plus W i i := by
  intro hi
  have := peel_keeps n (List.range W.length) (fun i hi => by
    obtain ⟨j, e, _⟩ := hi.turn
    exact List.mem_range.2 e.1) i hi
  rw [h] at this
  cases this
def Bad (N : Int) (es : List (Int × Int)) (rs : List (List Int)) : Prop := (∃ v w : Nat, (v : Int) < N ∧ (w : Int) < N ∧ v ≠ w ∧ go es rs (w : Int) (N.toNat - 1) (v : Int) = []) ∨ ∃ i, Plus (rowsOf N.toNat rs (Plan.hops N es)) i i
def CheckIs (b : Bool) (N : Int) (es : List (Int × Int)) (rs : List (List Int)) (z : Int) : Prop := (b = false ∧ z = 120) ∨ (b = true ∧ Bad N es rs ∧ z = 140) ∨ (b = true ∧ ¬ Bad N es rs ∧ z = 0)
theorem CheckIs.same {b : Bool} {N : Int} {es : List (Int × Int)} {rs : List (List Int)} {z y : Int} (h : CheckIs b N es rs z) (k : CheckIs b N es rs y) : z = y := by
  rcases h with ⟨h1, rfl⟩ | ⟨h1, h2, rfl⟩ | ⟨h1, h2, rfl⟩ <;> rcases k with ⟨k1, rfl⟩ | ⟨k1, k2, rfl⟩ | ⟨k1, k2, rfl⟩ <;> first | rfl | exact absurd h2 k2 | exact absurd k2 h2 | exact absurd (h1.symm.trans k1) (by decide)
def mark (S : List Int) (r : List Int) : List Int := r.foldl (fun s k => s.set k.toNat 1) S
structure Marks (L : Nat) (S : List Int) : Prop where
  len : S.length = L
  two : ∀ x ∈ S, x = 0 ∨ x = 1
def le (S T : List Int) : Prop := ∀ k : Nat, S.getD k 0 = 1 → T.getD k 0 = 1
def many (S : List Int) : Nat := S.countP (fun x => decide (x = 1))
end Go.Proofs.YtniicgbkeifnjaaGreatDoor.Route
namespace Go.Proofs.YtniicgbkeifnjaaGreatDoor.Tree
set_option linter.unusedVariables false
set_option maxRecDepth 100000
def low (ps : List Int) : Bool := (List.range ps.length).all fun i => decide (0 ≤ ps.getD i 0) && decide (ps.getD i 0 ≤ (i : Int))
def ok (ps : List Int) : Bool := low ps && decide (ps.length ≤ 5)
def par (ps : List Int) (v : Nat) : Nat := (ps.getD (v - 1) 0).toNat
def ups (ps : List Int) : Nat → Nat → List Int
  | 0, v => [(v : Int)]
  | f + 1, v => if v = 0 then [0] else (v : Int) :: ups ps f (par ps v)
def strip : Nat → List Int → List Int → List Int × List Int
  | 0, a, b => (a, b)
  | f + 1, a, b => if 1 < a.length ∧ 1 < b.length ∧ a.getD (a.length - 2) 0 = b.getD (b.length - 2) 0 then strip f a.dropLast b.dropLast else (a, b)
def join (x : List Int × List Int) : List Int := x.1 ++ x.2.dropLast.reverse
def path (ps : List Int) (v w : Nat) : List Int := join (strip 6 (ups ps 6 v) (ups ps 6 w))
def isNode (ps : List Int) (z : Int) : Bool := decide (0 ≤ z) && decide (z ≤ (ps.length : Int))
def pathOf (ps : List Int) (v w : Int) : List Int := if ok ps && isNode ps v && isNode ps w then path ps v.toNat w.toNat else []
def edges (ps : List Int) : List (Int × Int) := (List.range ps.length).map fun i => (ps.getD i 0, ((i + 1 : Nat) : Int))
def way (ps : List Int) (v w : Nat) : Int := if v = w then (v : Int) else (path ps v w).getD 1 0
def row (ps : List Int) (v : Nat) : List Int := (List.range (ps.length + 1)).map (way ps v)
def rows (ps : List Int) : List (List Int) := (List.range (ps.length + 1)).map (row ps)
def layOk (ps : List Int) : Bool := ok ps && decide (ps.length ≠ 0)
def trees : Nat → List (List Int)
  | 0 => [[]]
  | n + 1 => (trees n).flatMap fun t => (List.range (n + 1)).map fun (k : Nat) => t ++ [(k : Int)]
theorem low_iff (ps : List Int) : low ps = true ↔ ∀ i, i < ps.length → 0 ≤ ps.getD i 0 ∧ ps.getD i 0 ≤ (i : Int) := by
  unfold low
  rw [List.all_eq_true]
  constructor
  · intro h i hi
    have := h i (List.mem_range.2 hi)
    simpa using this
  · intro h i hi
    have := h i (List.mem_range.1 hi)
    simpa using this
theorem mem_trees : ∀ (n : Nat) (ps : List Int), ps.length = n → low ps = true → ps ∈ trees n
  | 0, ps, h, _ => by
    have : ps = [] := List.length_eq_zero_iff.1 h
    subst this
    exact List.mem_singleton.2 rfl
  | n + 1, ps, h, hl => by
    have hne : ps ≠ [] := by intro e; subst e; simp at h
    obtain ⟨t, x, rfl⟩ : ∃ t x, ps = t ++ [x] := ⟨ps.dropLast, ps.getLast hne, (List.dropLast_concat_getLast hne).symm⟩
    have ht : t.length = n := by simpa using h
    rw [low_iff] at hl
    have hx := hl n (by simp [ht])
    have ex : (t ++ [x]).getD n 0 = x := by rw [List.getD_eq_getElem?_getD, List.getElem?_append_right (by omega), ht]; simp
    rw [ex] at hx
    have h1 : low t = true := by
      rw [low_iff]
      intro i hi
      have := hl i (by simp; omega)
      rw [List.getD_eq_getElem?_getD, List.getElem?_append_left hi] at this
      rw [List.getD_eq_getElem?_getD]
      exact this
    unfold trees
    rw [List.mem_flatMap]
    refine ⟨t, mem_trees n t ht h1, List.mem_map.2 ⟨x.toNat, List.mem_range.2 (by omega), ?_⟩⟩
    congr 2
    omega
def all5 : List (List Int) := trees 0 ++ trees 1 ++ trees 2 ++ trees 3 ++ trees 4 ++ trees 5
theorem mem_all5 {ps : List Int} (h : ok ps = true) : ps ∈ all5 := by
  unfold ok at h
  rw [Bool.and_eq_true, decide_eq_true_eq] at h
  obtain ⟨h1, h2⟩ := h
  have hm := mem_trees ps.length ps rfl h1
  unfold all5
  simp only [List.mem_append]
  rcases Nat.lt_or_ge ps.length 1 with e | e
  · rw [show ps.length = 0 by omega] at hm; exact .inl (.inl (.inl (.inl (.inl hm))))
  rcases Nat.lt_or_ge ps.length 2 with e | e
  · rw [show ps.length = 1 by omega] at hm; exact .inl (.inl (.inl (.inl (.inr hm))))
  rcases Nat.lt_or_ge ps.length 3 with e | e
  · rw [show ps.length = 2 by omega] at hm; exact .inl (.inl (.inl (.inr hm)))
  rcases Nat.lt_or_ge ps.length 4 with e | e
  · rw [show ps.length = 3 by omega] at hm; exact .inl (.inl (.inr hm))
  rcases Nat.lt_or_ge ps.length 5 with e | e
  · rw [show ps.length = 4 by omega] at hm; exact .inl (.inr hm)
  · rw [show ps.length = 5 by omega] at hm; exact .inr hm
def ask2 (q : List Int → Nat → Nat → Bool) : Bool := all5.all fun ps => (List.range (ps.length + 1)).all fun v => (List.range (ps.length + 1)).all fun w => q ps v w
theorem of_ask2 {q : List Int → Nat → Nat → Bool} (h : ask2 q = true) {ps : List Int} (ho : ok ps = true) {v w : Nat} (hv : v ≤ ps.length) (hw : w ≤ ps.length) : q ps v w = true := by
  unfold ask2 at h
  rw [List.all_eq_true] at h
  have h1 := h ps (mem_all5 ho)
  rw [List.all_eq_true] at h1
  have h2 := h1 v (List.mem_range.2 (by omega))
  rw [List.all_eq_true] at h2
  exact h2 w (List.mem_range.2 (by omega))
end Go.Proofs.YtniicgbkeifnjaaGreatDoor.Tree
namespace Go.Proofs.YtniicgbkeifnjaaGreatDoor
open Go.ChangeShapes Go.WideShapes Go.ChangeAt Go.RowKit
set_option linter.unusedVariables false
set_option maxRecDepth 100000
namespace Tree
theorem low_not {ps : List Int} {k : Nat} (hk : k < ps.length) (h : ¬ (0 ≤ ps.getD k 0 ∧ ps.getD k 0 ≤ (k : Int))) : ok ps = false := by
  unfold ok
  rw [Bool.and_eq_false_iff]
  refine .inl ?_
  rw [← Bool.not_eq_true, low_iff]
  exact fun h1 => h (h1 k hk)
theorem ok_low {ps : List Int} (h : ∀ k, k < ps.length → 0 ≤ ps.getD k 0 ∧ ps.getD k 0 ≤ (k : Int)) : ok ps = decide (ps.length ≤ 5) := by
  unfold ok
  rw [(low_iff ps).2 h, Bool.true_and]
theorem ok_parts {ps : List Int} (h : ok ps = true) : ps.length ≤ 5 ∧ ∀ k, k < ps.length → 0 ≤ ps.getD k 0 ∧ ps.getD k 0 ≤ (k : Int) := by
  unfold ok at h
  rw [Bool.and_eq_true, decide_eq_true_eq, low_iff] at h
  exact ⟨h.2, h.1⟩
theorem ups_zero (ps : List Int) (f : Nat) : ups ps f 0 = [0] := by cases f <;> rfl
theorem ups_step (ps : List Int) (f v : Nat) (h : v ≠ 0) : ups ps (f + 1) v = (v : Int) :: ups ps f (par ps v) := by rw [ups, if_neg h]
theorem ups_len (ps : List Int) : ∀ f v, (ups ps f v).length ≤ f + 1
  | 0, v => by simp [ups]
  | f + 1, v => by
    unfold ups
    split
    · simp
    · have := ups_len ps f (par ps v)
      rw [List.length_cons]
      omega
theorem ups_pos (ps : List Int) : ∀ f v, 1 ≤ (ups ps f v).length
  | 0, v => by simp [ups]
  | f + 1, v => by unfold ups; split <;> simp
end Tree
theorem zr_get {w : World} {b off n : Nat} {l : List Int} (h : Zr w (some ⟨b, off, none⟩) n l) (k : Nat) (hk : k < n) : w.cell? ⟨b, off + k, none⟩ = some (.int .i64 (l.getD k 0)) := by
  obtain ⟨b', off', e, hc⟩ := h.at hk
  cases e
  exact hc
set_option maxHeartbeats 1000000 in
set_option maxRecDepth 100000 in
theorem rright_any {w : World} {a : Option Addr} {n c : Nat} {ps : List Int} (h : Zr w a n ps) (hn : n ≤ 17592186044416) :
    Calls Tryz.prog 84 #[.slice a n c] w fun e w' => e = .returned (.bool (Tree.ok ps)) ∧ w' = w := by
  have HZ : Hid (Zr w a n ps) := h
  have hln := h.1
  clear h
  go_enter Tryz.func84, Tryz.ntmps84
  go_wp2_with fail
  go_loopw [3] (fun i wr => ∃ k : Nat, k ≤ n ∧ i = .int .i64 k ∧ (∀ j, j < k → 0 ≤ ps.getD j 0 ∧ ps.getD j 0 ≤ (j : Int)) ∧ wr = w) (fun i _ => n - (intOf i).toNat)
  case atStart => exact ⟨0, Nat.zero_le _, rfl, fun j hj => by omega, rfl⟩
  case round =>
    obtain ⟨k, hk, rfl, hno, rfl⟩ := hrel
    have HN : Hid (∀ j, j < k → 0 ≤ ps.getD j 0 ∧ ps.getD j 0 ≤ (j : Int)) := hno
    clear hno
    by_cases hkn : k < n
    · obtain ⟨b, off, ha, hc⟩ := HZ.out.at hkn
      subst ha
      obtain ⟨y, hy⟩ : ∃ y, ps.getD k 0 = y := ⟨_, rfl⟩
      have HY : Hid (ps.getD k 0 = y) := hy
      rw [hy] at hc
      clear hy
      by_cases h1 : y < 0
      · have HF : Hid (Tree.ok ps = false) := Tree.low_not (k := k) (by omega) (by rw [HY.out]; omega)
        go_wp2_with fail
        go_ret
        exact ⟨by rw [HF.out]; rfl, rfl⟩
      · by_cases h2 : (k : Int) < y
        · have HF : Hid (Tree.ok ps = false) := Tree.low_not (k := k) (by omega) (by rw [HY.out]; omega)
          go_wp2_with fail
          go_ret
          exact ⟨by rw [HF.out]; rfl, rfl⟩
        · have HR : Hid (0 ≤ y ∧ y ≤ (k : Int)) := by constructor <;> omega
          go_wp2_with fail
          go_roundw
          case rel =>
            have R : ∀ j, j < k + 1 → 0 ≤ ps.getD j 0 ∧ ps.getD j 0 ≤ (j : Int) := fun j hj => by
              by_cases e : j = k
              · rw [e, HY.out]; exact HR.out
              · exact HN.out j (by omega)
            first | exact ⟨k + 1, by omega, by go_num, R, rfl⟩ | exact ⟨k + 1, by omega, by go_num, R, trivial⟩ | ((repeat apply Exists.intro); exact ⟨⟨k + 1, by omega, by go_num, R, rfl⟩, rfl⟩)
          case measure => simp [intOf]; omega
    · obtain rfl : k = n := by omega
      have hO := Tree.ok_low (ps := ps) (fun j hj => HN.out j (by omega))
      rw [hln] at hO
      have hO2 : decide (k ≤ 5) = decide ((k : Int) ≤ 5) := decide_eq_decide.2 (by omega)
      rw [hO2] at hO
      have HO : Hid (Tree.ok ps = decide ((k : Int) ≤ 5)) := hO
      clear hO2
      clear hO
      go_wp2_with fail
      go_ret
      exact ⟨by rw [HO.out]; rfl, rfl⟩
set_option maxHeartbeats 1000000 in
set_option maxRecDepth 100000 in
theorem rup_any {w : World} {a : Option Addr} {n c : Nat} {ps : List Int} (h : Zr w a n ps) (ho : Tree.ok ps = true) (v : Nat) (hv : v ≤ n) :
    Calls Tryz.prog 139 #[.slice a n c, .int .i64 v] w fun e w' => ∃ u, e = .returned u ∧ w'.ownsRow w.heap.size 3 1 u (Tree.ups ps 6 v).length (zcells (Tree.ups ps 6 v)) ∧ Below w.heap.size w w' := by
  have HZ : Hid (Zr w a n ps) := h
  have hln := h.1
  obtain ⟨h5, hlow⟩ := Tree.ok_parts ho
  have HL : Hid (∀ k, k < ps.length → 0 ≤ ps.getD k 0 ∧ ps.getD k 0 ≤ (k : Int)) := hlow
  have HO : Hid ((w.alloc (.cells #[.int .i64 (v : Int)] 3)).ownsRow w.heap.size 3 1 (.slice (some ⟨w.heap.size, 0, none⟩) 1 1) 1 (zcells [(v : Int)])) := World.ownsRow_lit (base := w.heap.size) (e := 3) (size := 1) w #[.int .i64 (v : Int)] 1 (Nat.le_refl _) (by unfold maxLen; omega) (by simp)
  have HB0 : Hid (Below w.heap.size w (w.alloc (.cells #[.int .i64 (v : Int)] 3))) := fresh _ _
  clear h ho hlow
  rw [hln] at h5
  go_enter Tryz.func139, Tryz.ntmps139
  go_wp2_with fail
  go_loopw [1, 5] (fun vv out wr => ∃ (x f : Nat) (pre : List Int), vv = .int .i64 x ∧ x ≤ n ∧ x ≤ f ∧ pre.length + f ≤ 6 ∧ pre ++ Tree.ups ps f x = Tree.ups ps 6 v ∧ wr.ownsRow w.heap.size 3 1 out (pre ++ [(x : Int)]).length (zcells (pre ++ [(x : Int)])) ∧ Below w.heap.size w wr) (fun vv _ _ => (intOf vv).toNat)
  case atStart => exact ⟨v, 6, [], rfl, hv, by omega, by simp, rfl, HO.out, HB0.out⟩
  case round =>
    obtain ⟨x, f, pre, rfl, hxn, hxf, hpf, hpre, hown, hB⟩ := hrel
    have HO1 : Hid (wr.ownsRow w.heap.size 3 1 u5 (pre ++ [(x : Int)]).length (zcells (pre ++ [(x : Int)]))) := hown
    have HB1 : Hid (Below w.heap.size w wr) := hB
    have HP : Hid (pre ++ Tree.ups ps f x = Tree.ups ps 6 v) := hpre
    clear hown hB hpre
    have hsz := HB1.out.size
    by_cases hx0 : x = 0
    · subst hx0
      have HE : Hid (pre ++ [((0 : Nat) : Int)] = Tree.ups ps 6 v) := by
        have := HP.out
        rw [Tree.ups_zero] at this
        exact this
      go_wp2_with fail
      go_ret
      refine ⟨_, rfl, ?_, HB1.out⟩
      have := HO1.out
      rw [HE.out] at this
      exact this
    · obtain ⟨y, rfl⟩ : ∃ y, x = y + 1 := ⟨x - 1, by omega⟩
      obtain ⟨f', rfl⟩ : ∃ f', f = f' + 1 := ⟨f - 1, by omega⟩
      obtain ⟨b, off, ha, hc⟩ := (HZ.out.below HB1.out).at (show y < n by omega)
      subst ha
      have hlw := HL.out y (by omega)
      obtain ⟨z, hz⟩ : ∃ z : Nat, ps.getD y 0 = (z : Int) := ⟨(ps.getD y 0).toNat, by omega⟩
      rw [hz] at hc hlw
      have hzy : z ≤ y := by omega
      have HS : Hid ((pre ++ [((y + 1 : Nat) : Int)]) ++ Tree.ups ps f' z = Tree.ups ps 6 v) := by
        have h1 := HP.out
        rw [Tree.ups_step ps f' (y + 1) (by omega)] at h1
        have h2 : Tree.par ps (y + 1) = z := by unfold Tree.par; rw [Nat.add_sub_cancel, hz]; omega
        rw [h2] at h1
        rw [List.append_assoc]
        exact h1
      have hpl : (pre ++ [((y + 1 : Nat) : Int)]).length ≤ 10 := by simp; omega
      clear hz hlw
      go_wp2_with (at_builtin; refine wpList_append_z rfl (.tmp 15) (.tmp 17) rfl w.heap.size u5 (pre ++ [((y + 1 : Nat) : Int)]) rfl (owns_below HO1.out (fresh _ _)) (by simp; omega) (some ⟨wr.heap.size, 0, none⟩) 1 1 [(z : Int)] rfl (zr_one wr z) (fun e => by cases e) (by omega) _ rfl ?_; intro v4 w4 hown4 hB4)
      go_roundw
      case rel =>
        have R1 : Below w.heap.size w w4 := (HB1.out.alloc hsz _).trans hB4
        have R2 : (pre ++ [((y + 1 : Nat) : Int)]).length + f' ≤ 6 := by simp; omega
        first | exact ⟨z, f', _, rfl, by omega, by omega, R2, HS.out, hown4, R1⟩ | ((repeat apply Exists.intro); exact ⟨⟨z, f', _, rfl, by omega, by omega, R2, HS.out, hown4, R1⟩, rfl⟩)
      case measure => simp [intOf]; omega
end Go.Proofs.YtniicgbkeifnjaaGreatDoor
