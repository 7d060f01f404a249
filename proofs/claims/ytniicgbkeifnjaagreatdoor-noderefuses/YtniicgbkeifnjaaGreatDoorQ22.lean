/-
  Contracts and plain facts that the walks lean on (RouteCut, RouteLandA, PlanSum, RefRouteB, RouteLandB, RefRouteC). Conditions: none but those that each states.
-/
import Derived.Test.YtniicgbkeifnjaaGreatDoorQ21
namespace Go.Proofs.YtniicgbkeifnjaaGreatDoor.Route
set_option linter.unusedVariables false
set_option maxRecDepth 100000
def cutTo (l : List Int) (x : Int) : Int := if l.contains x then x else -1
def cutRow (l r : List Int) : List Int := r.map (cutTo l)
def cut (es : List (Int × Int)) (rs : List (List Int)) : List (List Int) := (List.range rs.length).map fun v => cutRow (Plan.bes es (v : Nat)) (rs.getD v [])
theorem cut_len (es : List (Int × Int)) (rs : List (List Int)) : (cut es rs).length = rs.length := by simp [cut]
theorem cut_at {es : List (Int × Int)} {rs : List (List Int)} {v : Nat} (h : v < rs.length) : (cut es rs).getD v [] = cutRow (Plan.bes es (v : Nat)) (rs.getD v []) := by
  unfold cut
  rw [List.getD_eq_getElem?_getD, List.getElem?_map, List.getElem?_range h]
  rfl
theorem cutRow_len (l r : List Int) : (cutRow l r).length = r.length := by simp [cutRow]
theorem cutRow_at {l r : List Int} {w : Nat} (h : w < r.length) : (cutRow l r).getD w 0 = cutTo l (r.getD w 0) := by
  unfold cutRow
  rw [List.getD_eq_getElem?_getD, List.getElem?_map, List.getD_eq_getElem?_getD, List.getElem?_eq_getElem h]
  rfl
theorem port_neg {es : List (Int × Int)} {v u : Int} : Plan.port es v u < 0 ↔ u ∉ Plan.bes es v := by
  constructor
  · intro h hu
    have h1 : 1 ≤ Plan.port es v u := Plan.place_mem hu 0
    omega
  · intro h
    by_cases hp : Plan.port es v u < 0
    · exact hp
    · exact absurd (port_pos' hp) h
theorem nx_cut {es : List (Int × Int)} {rs : List (List Int)} {v w : Int} (hv : 0 ≤ v ∧ v < (rs.length : Int)) (hw : 0 ≤ w ∧ w < ((rs.getD v.toNat []).length : Int)) : nx (cut es rs) v w = if Plan.port es v (nx rs v w) < 0 then -1 else nx rs v w := by
  have h1 : ((v.toNat : Nat) : Int) = v := by omega
  have e : nx (cut es rs) v w = cutTo (Plan.bes es v) (nx rs v w) := by
    unfold nx
    rw [cut_at (by omega), cutRow_at (by omega), h1]
  rw [e]
  unfold cutTo
  by_cases hp : Plan.port es v (nx rs v w) < 0
  · rw [if_pos hp, if_neg (by simpa using port_neg.1 hp)]
  · rw [if_neg hp, if_pos (by simpa using port_pos' hp)]
theorem not_all_come {es : List (Int × Int)} {rs : List (List Int)} {n v w : Nat} (hv : v < n) (hw : w < n) (h : go es rs (w : Int) (n - 1) (v : Int) = []) : ∃ v w : Nat, (v : Int) < (n : Int) ∧ (w : Int) < (n : Int) ∧ v ≠ w ∧ go es rs (w : Int) (((n : Nat) : Int).toNat - 1) (v : Int) = [] := by
  refine ⟨v, w, by omega, by omega, fun e => ?_, by simpa using h⟩
  subst e
  rw [go_self] at h
  cases h
theorem all_come {es : List (Int × Int)} {rs : List (List Int)} {n : Nat} (h : ∀ v, v < n → ∀ w, w < n → go es rs (w : Int) (n - 1) (v : Int) ≠ []) : ¬ ∃ v w : Nat, (v : Int) < (n : Int) ∧ (w : Int) < (n : Int) ∧ v ≠ w ∧ go es rs (w : Int) (((n : Nat) : Int).toNat - 1) (v : Int) = [] := by
  rintro ⟨v, w, h1, h2, _, h3⟩
  exact h v (by omega) w (by omega) (by simpa using h3)
def rowTo (N : Nat) (rs : List (List Int)) (l : List (Int × Int)) (a : Int × Int) (k : Nat) : List Int := ((List.range k).filter fun j => wait N rs a (l.getD j (0, 0))).map fun (j : Nat) => (j : Int)
theorem rowTo_yes {N : Nat} {rs : List (List Int)} {l : List (Int × Int)} {a : Int × Int} {k : Nat} (h : wait N rs a (l.getD k (0, 0)) = true) : rowTo N rs l a (k + 1) = rowTo N rs l a k ++ [(k : Int)] := by
  unfold rowTo
  rw [List.range_succ, List.filter_append, List.map_append, List.filter_cons_of_pos (by exact h)]
  rfl
theorem rowTo_no {N : Nat} {rs : List (List Int)} {l : List (Int × Int)} {a : Int × Int} {k : Nat} (h : wait N rs a (l.getD k (0, 0)) = false) : rowTo N rs l a (k + 1) = rowTo N rs l a k := by
  unfold rowTo
  rw [List.range_succ, List.filter_append, List.map_append, List.filter_cons_of_neg (by rw [h]; decide)]
  simp
theorem rowTo_len (N : Nat) (rs : List (List Int)) (l : List (Int × Int)) (a : Int × Int) (k : Nat) : (rowTo N rs l a k).length ≤ k := by
  unfold rowTo
  rw [List.length_map]
  have := List.length_filter_le (fun j => wait N rs a (l.getD j (0, 0))) (List.range k)
  rw [List.length_range] at this
  exact this
theorem rowTo_all (N : Nat) (rs : List (List Int)) (l : List (Int × Int)) (i : Nat) : rowTo N rs l (l.getD i (0, 0)) l.length = row N rs l i := rfl
end Go.Proofs.YtniicgbkeifnjaaGreatDoor.Route
namespace Go.Proofs.YtniicgbkeifnjaaGreatDoor
open Go.ChangeShapes Go.WideShapes Go.ChangeAt Go.RowKit
set_option linter.unusedVariables false
set_option maxRecDepth 100000
theorem no_member {l : List Int} {x : Int} (h : ∀ j, j < l.length → l.getD j 0 ≠ x) : l.contains x = false := by
  rw [List.contains_eq_any_beq, List.any_eq_false]
  intro y hy
  obtain ⟨i, hi, rfl⟩ := List.getElem_of_mem hy
  have := h i hi
  rw [List.getD_eq_getElem?_getD, List.getElem?_eq_getElem hi] at this
  simp only [Option.getD_some] at this
  simpa using fun e => this e.symm
theorem is_member {l : List Int} {x : Int} {k : Nat} (hk : k < l.length) (h : l.getD k 0 = x) : l.contains x = true := by
  rw [← h, List.getD_eq_getElem?_getD, List.getElem?_eq_getElem hk]
  simp
set_option maxHeartbeats 1000000 in
set_option maxRecDepth 100000 in
theorem zindex_any {w : World} {a : Option Addr} {n c : Nat} {l : List Int} (h : Zr w a n l) (hn : n ≤ 17592186044416) (x : Int) :
    Calls Tryz.prog 200 #[.slice a n c, .int .i64 x] w fun e w' => ∃ z : Int, e = .returned (.int .i64 z) ∧ decide (0 ≤ z) = l.contains x ∧ w' = w := by
  have HZ : Hid (Zr w a n l) := h
  have HL : Hid (l.length = n) := h.1
  clear h
  go_enter Tryz.func200, Tryz.ntmps200
  go_wp2_with fail
  go_loopw [5, 8] (fun _ i wr => ∃ k : Nat, k ≤ n ∧ i = .int .i64 k ∧ (∀ j, j < k → l.getD j 0 ≠ x) ∧ wr = w) (fun _ i _ => n - (intOf i).toNat)
  case atStart => exact ⟨0, Nat.zero_le _, rfl, fun j hj => by omega, rfl⟩
  case round =>
    obtain ⟨k, hk, rfl, hno, rfl⟩ := hrel
    have HN : Hid (∀ j, j < k → l.getD j 0 ≠ x) := hno
    clear hno
    by_cases hkn : k < n
    · obtain ⟨b, off, ha, hc⟩ := HZ.out.at hkn
      subst ha
      obtain ⟨y, hy⟩ : ∃ y, l.getD k 0 = y := ⟨_, rfl⟩
      have HY : Hid (l.getD k 0 = y) := hy
      rw [hy] at hc
      clear hy
      by_cases hxy : x = y
      · have g : (x == y) = true := by simpa using hxy
        have HF : Hid (l.contains x = true) := is_member (k := k) (by have := HL.out; omega) (by rw [HY.out]; exact hxy.symm)
        clear hxy
        go_wp2_with fail
        go_ret
        exact ⟨(k : Int), rfl, by rw [HF.out]; exact decide_eq_true (by omega), rfl⟩
      · have g : (x == y) = false := by simpa using hxy
        have R : ∀ j, j < k + 1 → l.getD j 0 ≠ x := fun j hj => by
          by_cases e : j = k
          · rw [e, HY.out]; exact fun e => hxy e.symm
          · exact HN.out j (by omega)
        have HR : Hid (∀ j, j < k + 1 → l.getD j 0 ≠ x) := R
        clear hxy R
        go_wp2_with fail
        go_roundw
        case rel => first | exact ⟨k + 1, by omega, by go_num, HR.out, rfl⟩ | exact ⟨k + 1, by omega, by go_num, HR.out, trivial⟩ | ((repeat apply Exists.intro); exact ⟨⟨k + 1, by omega, by go_num, HR.out, rfl⟩, rfl⟩)
        case measure => simp [intOf]; omega
    · obtain rfl : k = n := by omega
      have HF : Hid (l.contains x = false) := no_member (fun j hj => HN.out j (by have := HL.out; omega))
      go_wp2_with fail
      go_ret
      exact ⟨-1, rfl, by rw [HF.out]; rfl, rfl⟩
set_option maxRecDepth 100000 in
theorem zcontains_any {w : World} {a : Option Addr} {n c : Nat} {l : List Int} (h : Zr w a n l) (hn : n ≤ 17592186044416) (x : Int) {b : Bool} (hb : l.contains x = b) :
    Calls Tryz.prog 146 #[.slice a n c, .int .i64 x] w fun e w' => e = .returned (.bool b) ∧ w' = w := by
  have HZ : Hid (Zr w a n l) := h
  have HB : Hid (l.contains x = b) := hb
  clear h hb
  go_enter Tryz.func146, Tryz.ntmps146
  go_wp2_with (go_at_call 200; refine (zindex_any HZ.out hn x).mono ?_; rintro e w' ⟨z, rfl, hz, rfl⟩; have HD : Hid (decide (0 ≤ z) = l.contains x) := hz; clear hz)
  go_ret
  exact ⟨by rw [← HB.out, ← HD.out]; rfl, rfl⟩
theorem send_start (w : World) (a1 a2 b1 b2 : Int) (W : World) (hW : (w.alloc (.cells #[.int .i64 a1, .int .i64 a2] 229)).alloc (.cells #[.int .i64 b1, .int .i64 b2] 229) = W) : Below w.heap.size w W ∧ W.cell? ⟨w.heap.size, 0, none⟩ = some (.int .i64 a1) ∧ W.cell? ⟨w.heap.size, 1, none⟩ = some (.int .i64 a2) ∧ W.cell? ⟨w.heap.size + 1, 0, none⟩ = some (.int .i64 b1) ∧ W.cell? ⟨w.heap.size + 1, 1, none⟩ = some (.int .i64 b2) := by
  have h3 : ∀ (u : World) (c d : Int), (u.alloc (.cells #[.int .i64 c, .int .i64 d] 229)).cell? ⟨u.heap.size, 0, none⟩ = some (.int .i64 c) ∧ (u.alloc (.cells #[.int .i64 c, .int .i64 d] 229)).cell? ⟨u.heap.size, 1, none⟩ = some (.int .i64 d) := fun u c d => ⟨by simp, by simp⟩
  have h4 := h3 w a1 a2
  have h5 := h3 (w.alloc (.cells #[.int .i64 a1, .int .i64 a2] 229)) b1 b2
  rw [World.size_alloc, hW] at h5
  have h6 := fresh (w.alloc (.cells #[.int .i64 a1, .int .i64 a2] 229)) (.cells #[.int .i64 b1, .int .i64 b2] 229)
  rw [hW] at h6
  exact ⟨by rw [← hW]; exact later (fresh _ _) (fresh _ _), (h6.cell (p := ⟨w.heap.size, 0, none⟩) (by simp)).trans h4.1, (h6.cell (p := ⟨w.heap.size, 1, none⟩) (by simp)).trans h4.2, h5.1, h5.2⟩
set_option maxHeartbeats 4000000 in
set_option maxRecDepth 100000 in
theorem sends_any {w : World} {p : PV} {es : List (Int × Int)} {ws : List Int} {rs : List (List Int)} {n : Nat} (h : PlN w p es ws rs) (hm : MayN p es rs n) (a1 a2 b1 b2 : Int) (h1 : 0 ≤ a1 ∧ a1 < (n : Int)) (h2 : 0 ≤ a2 ∧ a2 < (n : Int)) {k : Nat} (hk : k < n) {r : Bool} (hr : Route.waitAt rs a1 a2 b1 b2 k = r) :
    Calls Tryz.prog 202 #[.slice p.na p.nn p.nc, .agg #[.int .i64 a1, .int .i64 a2], .agg #[.int .i64 b1, .int .i64 b2], .int .i64 (k : Nat)] w fun e w' => e = .returned (.bool r) ∧ Below w.heap.size w w' := by
  have HS : Hid _ := send_start w a1 a2 b1 b2
  have HP : Hid (PlN w p es ws rs) := h
  have HM : Hid (MayN p es rs n) := hm
  have hn6 := hm.two
  have HR : Hid (Route.waitAt rs a1 a2 b1 b2 k = r) := hr
  have hkI : (k : Int) < (n : Int) := by omega
  clear h hm hr
  obtain ⟨N0, lanes, room, queue, rounds, every, bag, start, ea, en, ec, wa, wn, wc, na, nn, nc⟩ := p
  simp only
  go_enter Tryz.func202, Tryz.ntmps202
  go_wp2_with fail
  obtain ⟨hB, ca1, ca2, cb1, cb2⟩ := HS.out _ rfl
  have HB : Hid _ := hB
  clear HS hB
  generalize World.alloc _ _ = W at HB ca1 ca2 cb1 cb2 ⊢
  obtain ⟨ga, hga⟩ : ∃ g, w.heap.size = g := ⟨_, rfl⟩
  have HPW := HP.out.below HB.out
  have HG : Hid (w.heap.size = ga) := hga
  rw [hga] at HB ca1 ca2 cb1 cb2 ⊢
  obtain ⟨gb, hgb⟩ : ∃ g, ga + 1 = g := ⟨_, rfl⟩
  rw [hgb] at cb1 cb2 ⊢
  clear hga hgb HP
  obtain ⟨b, off, rb, ro, rc, e1, e2, x1, x2, _⟩ := HPW.next HM.out h1 (u := (k : Int)) ⟨by omega, hkI⟩
  obtain ⟨b', off', rb', ro', rc', e1', _, y1, y2, _⟩ := HPW.next HM.out h2 (u := (k : Int)) ⟨by omega, hkI⟩
  clear HPW
  simp only at e1 e2 e1'
  subst e1 e2
  cases e1'
  obtain ⟨z1, hz1⟩ : ∃ z, Route.nx rs a1 (k : Int) = z := ⟨_, rfl⟩
  obtain ⟨z2, hz2⟩ : ∃ z, Route.nx rs a2 (k : Int) = z := ⟨_, rfl⟩
  rw [hz1] at x2
  rw [hz2] at y2
  rw [Int.toNat_natCast] at x2 y2
  have HZ : Hid (Route.nx rs a1 (k : Int) = z1 ∧ Route.nx rs a2 (k : Int) = z2) := ⟨hz1, hz2⟩
  have hne := Since.any W
  have d1 := fun m : Since W => m.cell ca1
  have d2 := fun m : Since W => m.cell ca2
  have d3 := fun m : Since W => m.cell cb1
  have d4 := fun m : Since W => m.cell cb2
  have d5 := fun m : Since W => m.cell x1
  have d6 := fun m : Since W => m.cell x2
  have d7 := fun m : Since W => m.cell y1
  have d8 := fun m : Since W => m.cell y2
  clear hz1 hz2 x1 x2 y1 y2
  rcases (Classical.em (b1 = a2)).symm with t0 | t0
  · have g0 : (b1 == a2) = false := by simpa using t0
    obtain rfl : r = false := by
      rw [← HR.out]
      unfold Route.waitAt
      rw [HZ.out.1, HZ.out.2]
      rw [decide_eq_false (fun e => t0 e.symm)]
      rfl
    clear t0
    go_wp2_with fail
    refine region_since (u := W) (by kernel_rfl) (by kernel_rfl) (Below.refl _ _) ?_
    repeat (go_big_quiet_step (first | fail))
    refine wpQuiet_nil ?_
    intro _ hw'
    obtain ⟨nq, hw2⟩ := hw'
    subst hw2
    have HBq : Hid (Below w.heap.size w nq.w) := by show Below _ _ _; rw [HG.out]; exact HB.out.trans (nq.h.mono (by have := HB.out.size; have := HG.out; omega))
    clear hne d1 d2 d3 d4 d5 d6 d7 d8
    go_wp2_with fail
    go_ret
    exact ⟨rfl, HBq.out⟩
  have g0 : (b1 == a2) = true := by simpa using t0
  rcases (Classical.em ((k : Int) ≠ a1)).symm with t1 | t1
  · have g1 : ((k : Int) != a1) = false := by simpa using t1
    obtain rfl : r = false := by
      rw [← HR.out]
      unfold Route.waitAt
      rw [HZ.out.1, HZ.out.2]
      rw [decide_eq_false t1]
      simp
    clear t0 t1
    go_wp2_with fail
    refine region_since (u := W) (by kernel_rfl) (by kernel_rfl) (Below.refl _ _) ?_
    repeat (go_big_quiet_step (first | fail))
    refine wpQuiet_nil ?_
    intro _ hw'
    obtain ⟨nq, hw2⟩ := hw'
    subst hw2
    have HBq : Hid (Below w.heap.size w nq.w) := by show Below _ _ _; rw [HG.out]; exact HB.out.trans (nq.h.mono (by have := HB.out.size; have := HG.out; omega))
    clear hne d1 d2 d3 d4 d5 d6 d7 d8
    go_wp2_with fail
    go_ret
    exact ⟨rfl, HBq.out⟩
  have g1 : ((k : Int) != a1) = true := by simpa using t1
  rcases (Classical.em ((k : Int) ≠ a2)).symm with t2 | t2
  · have g2 : ((k : Int) != a2) = false := by simpa using t2
    obtain rfl : r = false := by
      rw [← HR.out]
      unfold Route.waitAt
      rw [HZ.out.1, HZ.out.2]
      rw [decide_eq_false t2]
      simp
    clear t0 t1 t2
    go_wp2_with fail
    refine region_since (u := W) (by kernel_rfl) (by kernel_rfl) (Below.refl _ _) ?_
    repeat (go_big_quiet_step (first | fail))
    refine wpQuiet_nil ?_
    intro _ hw'
    obtain ⟨nq, hw2⟩ := hw'
    subst hw2
    have HBq : Hid (Below w.heap.size w nq.w) := by show Below _ _ _; rw [HG.out]; exact HB.out.trans (nq.h.mono (by have := HB.out.size; have := HG.out; omega))
    clear hne d1 d2 d3 d4 d5 d6 d7 d8
    go_wp2_with fail
    go_ret
    exact ⟨rfl, HBq.out⟩
  have g2 : ((k : Int) != a2) = true := by simpa using t2
  rcases (Classical.em (z1 = a2)).symm with t3 | t3
  · have g3 : (z1 == a2) = false := by simpa using t3
    obtain rfl : r = false := by
      rw [← HR.out]
      unfold Route.waitAt
      rw [HZ.out.1, HZ.out.2]
      rw [decide_eq_false t3]
      simp
    clear t0 t1 t2 t3
    go_wp2_with fail
    refine region_since (u := W) (by kernel_rfl) (by kernel_rfl) (Below.refl _ _) ?_
    repeat (go_big_quiet_step (first | fail))
    refine wpQuiet_nil ?_
    intro _ hw'
    obtain ⟨nq, hw2⟩ := hw'
    subst hw2
    have HBq : Hid (Below w.heap.size w nq.w) := by show Below _ _ _; rw [HG.out]; exact HB.out.trans (nq.h.mono (by have := HB.out.size; have := HG.out; omega))
    clear hne d1 d2 d3 d4 d5 d6 d7 d8
    go_wp2_with fail
    go_ret
    exact ⟨rfl, HBq.out⟩
  have g3 : (z1 == a2) = true := by simpa using t3
  rcases (Classical.em (z2 = b2)).symm with t4 | t4
  · have g4 : (z2 == b2) = false := by simpa using t4
    obtain rfl : r = false := by
      rw [← HR.out]
      unfold Route.waitAt
      rw [HZ.out.1, HZ.out.2]
      rw [decide_eq_false t4]
      simp
    clear t0 t1 t2 t3 t4
    go_wp2_with fail
    refine region_since (u := W) (by kernel_rfl) (by kernel_rfl) (Below.refl _ _) ?_
    repeat (go_big_quiet_step (first | fail))
    refine wpQuiet_nil ?_
    intro _ hw'
    obtain ⟨nq, hw2⟩ := hw'
    subst hw2
    have HBq : Hid (Below w.heap.size w nq.w) := by show Below _ _ _; rw [HG.out]; exact HB.out.trans (nq.h.mono (by have := HB.out.size; have := HG.out; omega))
    clear hne d1 d2 d3 d4 d5 d6 d7 d8
    go_wp2_with fail
    go_ret
    exact ⟨rfl, HBq.out⟩
  have g4 : (z2 == b2) = true := by simpa using t4
  obtain rfl : r = true := by
    rw [← HR.out]
    unfold Route.waitAt
    rw [HZ.out.1, HZ.out.2, decide_eq_true t0.symm, decide_eq_true t1, decide_eq_true t2, decide_eq_true t3, decide_eq_true t4]
    rfl
  clear t0 t1 t2 t3 t4
  go_wp2_with fail
  refine region_since (u := W) (by kernel_rfl) (by kernel_rfl) (Below.refl _ _) ?_
  repeat (go_big_quiet_step (first | fail))
  refine wpQuiet_nil ?_
  intro _ hw'
  obtain ⟨nq, hw2⟩ := hw'
  subst hw2
  have HBq : Hid (Below w.heap.size w nq.w) := by show Below _ _ _; rw [HG.out]; exact HB.out.trans (nq.h.mono (by have := HB.out.size; have := HG.out; omega))
  clear hne d1 d2 d3 d4 d5 d6 d7 d8
  go_wp2_with fail
  go_ret
  exact ⟨rfl, HBq.out⟩
end Go.Proofs.YtniicgbkeifnjaaGreatDoor
namespace Go.Proofs.YtniicgbkeifnjaaGreatDoor.Plan
set_option linter.unusedVariables false
set_option maxRecDepth 100000
def cnt (e : Int × Int) : Nat → Nat
  | 0 => 0
  | k + 1 => cnt e k + (rawE (k : Int) e).length
theorem getD_mem {l : List Int} {i : Nat} (h : i < l.length) : l.getD i 0 ∈ l := by
  rw [List.getD_eq_getElem?_getD, List.getElem?_eq_getElem h]
  exact List.getElem_mem h
theorem mem_hopsOf {es : List (Int × Int)} {v : Nat} {e : Int × Int} (h : e ∈ hopsOf es v) : e.1 = (v : Int) ∧ e.2 ∈ bes es (v : Int) ∧ 0 ≤ e.2 ∧ e.2 < 6 := by
  unfold hopsOf at h
  obtain ⟨u, hu, rfl⟩ := List.mem_map.1 h
  obtain ⟨h1, h2⟩ := List.mem_filter.1 hu
  simp only [Bool.and_eq_true, decide_eq_true_eq] at h2
  exact ⟨rfl, h1, h2⟩
theorem mem_hopsTo {es : List (Int × Int)} {k : Nat} {e : Int × Int} (h : e ∈ hopsTo es k) : ∃ v : Nat, v < k ∧ e ∈ hopsOf es v := by
  unfold hopsTo at h
  obtain ⟨v, hv, he⟩ := List.mem_flatMap.1 h
  exact ⟨v, List.mem_range.1 hv, he⟩
end Go.Proofs.YtniicgbkeifnjaaGreatDoor.Plan
namespace Go.Proofs.YtniicgbkeifnjaaGreatDoor
open Go.ChangeShapes Go.WideShapes Go.ChangeAt Go.RowKit
set_option linter.unusedVariables false
set_option maxRecDepth 100000
namespace Route
def part (N : Nat) (rs : List (List Int)) (l : List (Int × Int)) (a : Int × Int) (k : Nat) : List Int := ((List.range k).filter fun j => wait N rs a (l.getD j (0, 0))).map fun (j : Nat) => (j : Int)
theorem part_zero (N : Nat) (rs : List (List Int)) (l : List (Int × Int)) (a : Int × Int) : part N rs l a 0 = [] := rfl
theorem part_hit {N : Nat} {rs : List (List Int)} {l : List (Int × Int)} {a : Int × Int} {k : Nat} (h : wait N rs a (l.getD k (0, 0)) = true) : part N rs l a k ++ [(k : Int)] = part N rs l a (k + 1) := by
  unfold part
  rw [List.range_succ, List.filter_append, List.map_append]
  simp [List.getD_eq_getElem?_getD] at h
  simp [h]
theorem part_miss {N : Nat} {rs : List (List Int)} {l : List (Int × Int)} {a : Int × Int} {k : Nat} (h : wait N rs a (l.getD k (0, 0)) = false) : part N rs l a (k + 1) = part N rs l a k := by
  unfold part
  rw [List.range_succ, List.filter_append, List.map_append]
  simp [List.getD_eq_getElem?_getD] at h
  simp [h]
theorem part_len (N : Nat) (rs : List (List Int)) (l : List (Int × Int)) (a : Int × Int) (k : Nat) : (part N rs l a k).length ≤ k := by
  unfold part
  rw [List.length_map]
  have := List.length_filter_le (fun j => wait N rs a (l.getD j (0, 0))) (List.range k)
  rw [List.length_range] at this
  exact this
end Route
theorem hops_in {p : PV} {es : List (Int × Int)} {rs : List (List Int)} {n : Nat} (hm : MayN p es rs n) {e : Int × Int} (he : e ∈ Plan.hops (n : Int) es) : (0 ≤ e.1 ∧ e.1 < (n : Int)) ∧ (0 ≤ e.2 ∧ e.2 < (n : Int)) := by
  unfold Plan.hops at he
  obtain ⟨v, hv, h1⟩ := Plan.mem_hopsTo he
  obtain ⟨h2, h3, _⟩ := Plan.mem_hopsOf h1
  unfold Plan.upto at hv
  exact ⟨by omega, hm.in_bes h3⟩
theorem hops_few {n : Nat} (es : List (Int × Int)) (hn : n ≤ 6) : (Plan.hops (n : Int) es).length ≤ 36 := by
  have := Plan.hopsTo_len es (Plan.upto (n : Int))
  unfold Plan.hops
  unfold Plan.upto at this ⊢
  omega
end Go.Proofs.YtniicgbkeifnjaaGreatDoor
namespace Go.Proofs.YtniicgbkeifnjaaGreatDoor
open Go.ChangeShapes Go.WideShapes Go.ChangeAt Go.RowKit
set_option linter.unusedVariables false
set_option maxRecDepth 100000
theorem rnoGoto_ret {Q : Exit → Act → World → Prop} {a : Act} {w : World} (h : Q .ret a w) : Exit.noGoto Q .ret a w := h
theorem box_two (w : World) (c d : Int) (W : World) (hW : w.alloc (.cells #[.int .i64 c, .int .i64 d] 229) = W) : Below w.heap.size w W ∧ W.cell? ⟨w.heap.size, 0, none⟩ = some (.int .i64 c) ∧ W.cell? ⟨w.heap.size, 1, none⟩ = some (.int .i64 d) ∧ W.heap.size = w.heap.size + 1 := by
  subst hW
  exact ⟨fresh _ _, by simp, by simp, by simp⟩
set_option maxHeartbeats 4000000 in
set_option maxRecDepth 100000 in
theorem behind_any {w : World} {p : PV} {es : List (Int × Int)} {ws : List Int} {rs : List (List Int)} {n : Nat} (h : PlN w p es ws rs) (hm : MayN p es rs n) {a : Option Addr} {m c : Nat} {hs : List (Int × Int)} (hh : Pr w a m hs) (hmx : m ≤ 36) (a1 a2 : Int) (h1 : 0 ≤ a1 ∧ a1 < (n : Int)) (h2 : 0 ≤ a2 ∧ a2 < (n : Int)) :
    Calls Tryz.prog 150 #[.slice p.na p.nn p.nc, .slice a m c, .agg #[.int .i64 a1, .int .i64 a2]] w fun e w' => ∃ v, e = .returned v ∧ w'.ownsRow w.heap.size 3 1 v (Route.rowTo n rs hs (a1, a2) m).length (zcells (Route.rowTo n rs hs (a1, a2) m)) ∧ Below w.heap.size w w' := by
  have HX : Hid _ := box_two w a1 a2
  have HP : Hid (PlN w p es ws rs) := h
  have HM : Hid (MayN p es rs n) := hm
  have HH : Hid (Pr w a m hs) := hh
  have HHl : Hid (hs.length = m) := hh.1
  have hnn : p.nn = n := by rw [← h.mr.1]; exact hm.rows
  have hn6 := hm.two.2
  clear h hm hh
  obtain ⟨na, hna⟩ : ∃ x, p.na = x := ⟨_, rfl⟩
  obtain ⟨nc, hnc⟩ : ∃ x, p.nc = x := ⟨_, rfl⟩
  have HPe : Hid (p.na = na ∧ p.nn = n ∧ p.nc = nc) := ⟨hna, hnn, hnc⟩
  rw [hna, hnn, hnc]
  clear hna hnn hnc
  go_enter Tryz.func150, Tryz.ntmps150
  go_wp2_with fail
  refine wp_scope_straight ?_
  go_wp2_with fail
  obtain ⟨hB, ca1, ca2, hsz⟩ := HX.out _ rfl
  have HB : Hid _ := hB
  have HC : Hid (_ ∧ _) := ⟨ca1, ca2⟩
  have HSz : Hid _ := hsz
  clear HX hB ca1 ca2 hsz
  generalize World.alloc _ _ = W at HB HC HSz ⊢
  obtain ⟨g, hg⟩ : ∃ g, w.heap.size = g := ⟨_, rfl⟩
  have HG : Hid (w.heap.size = g) := hg
  have HPW : Hid (PlN W p es ws rs) := HP.out.below HB.out
  have HHW : Hid (Pr W a m hs) := HH.out.below HB.out
  rw [hg] at HB HC HSz ⊢
  clear hg HP HH
  try refine wp_label ?_
  go_wp2_with fail
  go_loopw [7, 13] (fun u i wr => ∃ k : Nat, k ≤ m ∧ i = .int .i64 k ∧ wr.ownsRow W.heap.size 3 1 u (Route.rowTo n rs hs (a1, a2) k).length (zcells (Route.rowTo n rs hs (a1, a2) k)) ∧ Below W.heap.size W wr) (fun _ i _ => m - (intOf i).toNat)
  case atStart => exact ⟨0, Nat.zero_le _, rfl, World.ownsRow_nil _ _ _ _, Below.refl _ _⟩
  case round =>
    obtain ⟨k, hk, rfl, hO, hBr⟩ := hrel
    have HO : Hid (wr.ownsRow W.heap.size 3 1 u7 (Route.rowTo n rs hs (a1, a2) k).length (zcells (Route.rowTo n rs hs (a1, a2) k))) := hO
    have HBr : Hid (Below W.heap.size W wr) := hBr
    clear hO hBr
    by_cases hkm : k < m
    · obtain ⟨hb, ho, eh, ch1, ch2⟩ := (HHW.out.below HBr.out).at hkm
      subst eh
      obtain ⟨b1, hb1⟩ : ∃ z, (hs.getD k (0, 0)).1 = z := ⟨_, rfl⟩
      obtain ⟨b2, hb2⟩ : ∃ z, (hs.getD k (0, 0)).2 = z := ⟨_, rfl⟩
      have HBt : Hid (hs.getD k (0, 0) = (b1, b2)) := by show _ = _; rw [← hb1, ← hb2]
      rw [hb1] at ch1
      rw [hb2] at ch2
      clear hb1 hb2
      have HX2 : Hid _ := box_two wr b1 b2
      go_wp2_with fail
      obtain ⟨hB2, cb1, cb2, hsz2⟩ := HX2.out _ rfl
      have HB2 : Hid _ := hB2
      have HD : Hid (_ ∧ _) := ⟨cb1, cb2⟩
      have HSz2 : Hid _ := hsz2
      clear HX2 hB2 cb1 cb2 hsz2 ch1 ch2
      generalize World.alloc _ _ = W2 at HB2 HD HSz2 ⊢
      obtain ⟨g2, hg2⟩ : ∃ g, wr.heap.size = g := ⟨_, rfl⟩
      have HG2 : Hid (wr.heap.size = g2) := hg2
      have HO2 : Hid (W2.ownsRow W.heap.size 3 1 u7 (Route.rowTo n rs hs (a1, a2) k).length (zcells (Route.rowTo n rs hs (a1, a2) k))) := owns_below HO.out HB2.out
      have HBW : Hid (Below W.heap.size W W2) := later HBr.out HB2.out
      rw [hg2] at HB2 HD HSz2 ⊢
      clear hg2
      obtain ⟨pl, hpl⟩ : ∃ v, v = u7 := ⟨_, rfl⟩
      subst hpl
      go_loopw [7, 20] (fun u i wi => ∃ j : Nat, j ≤ n ∧ i = .int .i64 j ∧ u = pl ∧ (∀ t, t < j → Route.waitAt rs a1 a2 b1 b2 t = false) ∧ Below W2.heap.size W2 wi) (fun _ i _ => n - (intOf i).toNat)
      case atStart => exact ⟨0, Nat.zero_le _, rfl, rfl, fun t ht => by omega, Below.refl _ _⟩
      case round =>
        obtain ⟨j, hj, rfl, rfl, hno, hBi⟩ := hrel
        have HN : Hid (∀ t, t < j → Route.waitAt rs a1 a2 b1 b2 t = false) := hno
        have HBi : Hid (Below W2.heap.size W2 wr) := hBi
        have HBWi : Hid (Below W.heap.size W wr) := later HBW.out hBi
        have hcl : W2.heap.size = g2 + 1 := HSz2.out
        have hcl1 : W.heap.size = g + 1 := HSz.out
        have hcg : W.heap.size ≤ W2.heap.size := HBW.out.size
        have ra1 : wr.cell? ⟨g, 0, none⟩ = some (.int .i64 a1) := (HBWi.out.cell (p := ⟨g, 0, none⟩) (by show g < _; omega)).trans HC.out.1
        have ra2 : wr.cell? ⟨g, 1, none⟩ = some (.int .i64 a2) := (HBWi.out.cell (p := ⟨g, 1, none⟩) (by show g < _; omega)).trans HC.out.2
        have rb1 : wr.cell? ⟨g2, 0, none⟩ = some (.int .i64 b1) := (hBi.cell (p := ⟨g2, 0, none⟩) (by show g2 < _; omega)).trans HD.out.1
        have rb2 : wr.cell? ⟨g2, 1, none⟩ = some (.int .i64 b2) := (hBi.cell (p := ⟨g2, 1, none⟩) (by show g2 < _; omega)).trans HD.out.2
        clear hno hBi hcl hcl1 hcg
        by_cases hjn : j < n
        · obtain ⟨r, hr⟩ : ∃ r, Route.waitAt rs a1 a2 b1 b2 j = r := ⟨_, rfl⟩
          have HR : Hid (Route.waitAt rs a1 a2 b1 b2 j = r) := hr
          have HCall : Hid _ := sends_any (HPW.out.below HBWi.out) HM.out a1 a2 b1 b2 h1 h2 hjn hr
          rw [HPe.out.1, HPe.out.2.1, HPe.out.2.2] at HCall
          clear hr
          cases r with
          | true =>
            have HE : Hid (Route.rowTo n rs hs (a1, a2) k ++ [(k : Int)] = Route.rowTo n rs hs (a1, a2) (k + 1)) := by
              show _ = _
              rw [Route.rowTo_yes]
              rw [HBt.out]
              exact Route.wait_yes hjn HR.out
            have hkl := Route.rowTo_len n rs hs (a1, a2) k
            go_wp2_with fail
            refine Calls.mono HCall.out ?_
            rintro e w3 ⟨rfl, hB3⟩
            have HB3 : Hid (Below W2.heap.size W2 w3) := later HBi.out hB3
            clear hB3 ra1 ra2 rb1 rb2
            have hs3 : W.heap.size ≤ w3.heap.size := Nat.le_trans HBW.out.size HB3.out.size
            have HO3 : Hid (w3.ownsRow W.heap.size 3 1 u7 (Route.rowTo n rs hs (a1, a2) k).length (zcells (Route.rowTo n rs hs (a1, a2) k))) := owns_below HO2.out HB3.out
            go_wp2_with (at_builtin; refine wpList_append_z rfl (.tmp 28) (.tmp 30) rfl W.heap.size _ (Route.rowTo n rs hs (a1, a2) k) rfl (owns_below HO3.out (fresh _ _)) (by simp; omega) (some ⟨w3.heap.size, 0, none⟩) 1 1 [(k : Int)] rfl (zr_one _ _) (fun e => by cases e) (by omega) _ HE.out ?_; intro v' w4 hown hB4)
            have HR4 : Hid (Below W.heap.size W w4) := (later HBW.out HB3.out).trans ((fresh _ _).mono hs3 |>.trans hB4)
            go_roundw
            case rel => first | exact ⟨k + 1, by omega, by go_num, hown, HR4.out⟩ | ((repeat apply Exists.intro); exact ⟨⟨k + 1, by omega, by go_num, hown, HR4.out⟩, rfl⟩)
            case measure => simp [intOf]; omega
          | false =>
            go_wp2_with fail
            refine Calls.mono HCall.out ?_
            rintro e w3 ⟨rfl, hB3⟩
            have HB3 : Hid (Below W2.heap.size W2 w3) := later HBi.out hB3
            have HN2 : Hid (∀ t, t < j + 1 → Route.waitAt rs a1 a2 b1 b2 t = false) := fun t ht => by
              by_cases e : t = j
              · rw [e]; exact HR.out
              · exact HN.out t (by omega)
            clear hB3 ra1 ra2 rb1 rb2
            go_wp2_with fail
            go_roundw
            case rel => first | exact ⟨j + 1, by omega, by go_num, rfl, HN2.out, HB3.out⟩ | exact ⟨j + 1, by omega, by go_num, trivial, HN2.out, HB3.out⟩ | ((repeat apply Exists.intro); exact ⟨⟨j + 1, by omega, by go_num, rfl, HN2.out, HB3.out⟩, rfl⟩)
            case measure => simp [intOf]; omega
        · obtain rfl : j = n := by omega
          have HE : Hid (Route.rowTo j rs hs (a1, a2) k = Route.rowTo j rs hs (a1, a2) (k + 1)) := by
            show _ = _
            rw [Route.rowTo_no]
            rw [HBt.out]
            exact Route.wait_no (fun t ht => HN.out t ht)
          have HO3 : Hid (wr.ownsRow W.heap.size 3 1 u7 (Route.rowTo j rs hs (a1, a2) (k + 1)).length (zcells (Route.rowTo j rs hs (a1, a2) (k + 1)))) := by
            show wr.ownsRow _ _ _ _ _ _
            rw [← HE.out]
            exact owns_below HO2.out HBi.out
          clear ra1 ra2 rb1 rb2
          go_wp2_with fail
          go_roundw
          case rel => first | exact ⟨k + 1, by omega, by go_num, HO3.out, HBWi.out⟩ | ((repeat apply Exists.intro); exact ⟨⟨k + 1, by omega, by go_num, HO3.out, HBWi.out⟩, rfl⟩)
          case measure => simp [intOf]; omega
    · obtain rfl : k = m := by omega
      go_wp2_with fail
      refine rnoGoto_ret ?_
      go_ret
      exact ⟨_, rfl, owns_mono HO.out (by have := HSz.out; have := HG.out; omega), by rw [HG.out]; exact HB.out.trans (HBr.out.mono (by have := HSz.out; omega))⟩
end Go.Proofs.YtniicgbkeifnjaaGreatDoor
namespace Go.Proofs.YtniicgbkeifnjaaGreatDoor
open Go.ChangeShapes Go.WideShapes Go.ChangeAt Go.RowKit
set_option linter.unusedVariables false
set_option maxRecDepth 100000
def lenV (v : Value) : Nat := match v with | .slice _ n _ => n | _ => 0
end Go.Proofs.YtniicgbkeifnjaaGreatDoor
