/-
  Package route as it landed: slices.Contains at numbers, isNode, sendsOn. Conditions: none but that the rows are led to.
  Package route as it landed: the row of a hop's waits. Conditions: none but that the rows are led to.
  Package route as it landed: the way from node to node over ways that are cut, and whether all come. Conditions: none but that the rows are led to.
  Rows of the call's own that are written step by step, and rows of such rows. Conditions: none.
  slices.Clone at numbers: a row of the call's own. Conditions: none but that the slice leads to numbers.
  Package route as it landed: ways. Conditions: none but that the plan's rows are led to, and that it may be.
  Package route as it landed: circles sought by a closure that calls itself, with marks. Conditions: none but that the rows are led to, and lead to places.
  Package route as it landed: whether waits go round. Conditions: none but that the rows are led to, and lead to places.
  Package route as it landed: goRound. Conditions: none but that the rows are led to, and lead to places.
  Package route as it landed: Waits. Conditions: none but that the plan's rows are led to.
  Package route as it landed: Path, Check; the package comes to what RouteSpec says. Conditions: none but that the plan's rows are led to.
-/
import Derived.Test.YtphaaolnmbadcaaRouteRows
import Derived.Test.YtphaaolnmbadcaaRouteCut
import Derived.Test.YtphaaolnmbadcaaRefRouteB
import Derived.Test.YtphaaolnmbadcaaRefRouteC
import Derived.Test.YtphaaolnmbadcaaTreeRows
import Derived.Deep.OwnRows
import Derived.Test.YtphaaolnmbadcaaPlanRow
import Derived.Test.YtphaaolnmbadcaaRefPlanB
import Derived.Test.YtphaaolnmbadcaaPlanB
import Derived.Deep.DeepCutAuto
import Derived.Test.YtphaaolnmbadcaaRefRouteD
import Derived.Deep.RegionWith
import Derived.RangeFuncRecord
import Derived.Laws.EntriesVeiled
import Derived.Test.YtphaaolnmbadcaaPlanLand
import Derived.Test.YtphaaolnmbadcaaRouteSpec
namespace Go.Proofs.Ytphaaolnmbadcaa
open Go.ChangeShapes Go.WideShapes Go.ChangeAt Go.RowKit
set_option linter.unusedVariables false

theorem no_member {l : List Int} {x : Int} (h : ∀ j, j < l.length → l.getD j 0 ≠ x) : l.contains x = false := by
  rw [List.contains_eq_any_beq, List.any_eq_false]
  intro y hy
  obtain ⟨i, hi, rfl⟩ := List.getElem_of_mem hy
  have := h i hi
  rw [List.getD_eq_getElem?_getD, List.getElem?_eq_getElem hi] at this
  simp only [Option.getD_some] at this
  simpa using fun e => this e.symm
theorem is_member {l : List Int} {x : Int} {k : Nat} (hk : k < l.length) (h : l.getD k 0 = x) : l.contains x = true := by
  rw [← h, List.getD_eq_getElem?_getD, List.getElem?_eq_getElem hk]
  simp
set_option maxHeartbeats 1000000 in
set_option maxRecDepth 100000 in
theorem zindex_any {w : World} {a : Option Addr} {n c : Nat} {l : List Int} (h : Zr w a n l) (hn : n ≤ 17592186044416) (x : Int) :
    Calls Try.prog 59 #[.slice a n c, .int .i64 x] w fun e w' => ∃ z : Int, e = .returned (.int .i64 z) ∧ decide (0 ≤ z) = l.contains x ∧ w' = w := by
  have HZ : Hid (Zr w a n l) := h
  have HL : Hid (l.length = n) := h.1
  clear h
  go_enter Try.func59, Try.ntmps59
  go_wp2_with fail
  go_loopw [5, 8] (fun _ i wr => ∃ k : Nat, k ≤ n ∧ i = .int .i64 k ∧ (∀ j, j < k → l.getD j 0 ≠ x) ∧ wr = w) (fun _ i _ => n - (intOf i).toNat)
  case atStart => exact ⟨0, Nat.zero_le _, rfl, fun j hj => by omega, rfl⟩
  case round =>
    obtain ⟨k, hk, rfl, hno, rfl⟩ := hrel
    have HN : Hid (∀ j, j < k → l.getD j 0 ≠ x) := hno
    clear hno
    by_cases hkn : k < n
    · obtain ⟨b, off, ha, hc⟩ := HZ.out.at hkn
      subst ha
      obtain ⟨y, hy⟩ : ∃ y, l.getD k 0 = y := ⟨_, rfl⟩
      have HY : Hid (l.getD k 0 = y) := hy
      rw [hy] at hc
      clear hy
      by_cases hxy : x = y
      · have g : (x == y) = true := by simpa using hxy
        have HF : Hid (l.contains x = true) := is_member (k := k) (by have := HL.out; omega) (by rw [HY.out]; exact hxy.symm)
        clear hxy
        go_wp2_with fail
        go_ret
        exact ⟨(k : Int), rfl, by rw [HF.out]; exact decide_eq_true (by omega), rfl⟩
      · have g : (x == y) = false := by simpa using hxy
        have R : ∀ j, j < k + 1 → l.getD j 0 ≠ x := fun j hj => by
          by_cases e : j = k
          · rw [e, HY.out]; exact fun e => hxy e.symm
          · exact HN.out j (by omega)
        have HR : Hid (∀ j, j < k + 1 → l.getD j 0 ≠ x) := R
        clear hxy R
        go_wp2_with fail
        go_roundw
        case rel => first | exact ⟨k + 1, by omega, by go_num, HR.out, rfl⟩ | exact ⟨k + 1, by omega, by go_num, HR.out, trivial⟩ | ((repeat apply Exists.intro); exact ⟨⟨k + 1, by omega, by go_num, HR.out, rfl⟩, rfl⟩)
        case measure => simp [intOf]; omega
    · obtain rfl : k = n := by omega
      have HF : Hid (l.contains x = false) := no_member (fun j hj => HN.out j (by have := HL.out; omega))
      go_wp2_with fail
      go_ret
      exact ⟨-1, rfl, by rw [HF.out]; rfl, rfl⟩
set_option maxRecDepth 100000 in
theorem zcontains_any {w : World} {a : Option Addr} {n c : Nat} {l : List Int} (h : Zr w a n l) (hn : n ≤ 17592186044416) (x : Int) {b : Bool} (hb : l.contains x = b) :
    Calls Try.prog 40 #[.slice a n c, .int .i64 x] w fun e w' => e = .returned (.bool b) ∧ w' = w := by
  have HZ : Hid (Zr w a n l) := h
  have HB : Hid (l.contains x = b) := hb
  clear h hb
  go_enter Try.func40, Try.ntmps40
  go_wp2_with (go_at_call 59; refine (zindex_any HZ.out hn x).mono ?_; rintro e w' ⟨z, rfl, hz, rfl⟩; have HD : Hid (decide (0 ≤ z) = l.contains x) := hz; clear hz)
  go_ret
  exact ⟨by rw [← HB.out, ← HD.out]; rfl, rfl⟩
set_option maxRecDepth 100000 in
theorem risnode_any (w : World) (p : PV) (v : Int) : Calls Try.prog 25 #[p.val, .int .i64 v] w fun e w' => e = .returned (.bool (Route.isIn p.nodes v)) ∧ Below w.heap.size w w' := by
  have HX : Hid (Bxd (w.alloc p.obj) w.heap.size p) := bxd_new w p
  have HW : Hid (Below w.heap.size w (w.alloc p.obj)) := fresh _ _
  obtain ⟨N, lanes, room, queue, rounds, every, bag, start, ea, en, ec, wa, wn, wc, na, nn, nc⟩ := p
  simp only [PV.val, PV.obj] at HX HW ⊢
  have hc0 := HX.out.c0
  simp only at hc0
  have HI : Hid (Route.isIn N v = (decide (0 ≤ v) && decide (v < N))) := rfl
  go_enter Try.func25, Try.ntmps25
  by_cases h0 : 0 ≤ v
  · have d0 : decide (0 ≤ v) = true := decide_eq_true h0
    go_wp2_with fail
    go_ret
    exact ⟨by rw [HI.out, d0, Bool.true_and]; rfl, HW.out⟩
  · have d0 : decide (0 ≤ v) = false := decide_eq_false h0
    go_wp2_with fail
    go_ret
    exact ⟨by rw [HI.out, d0, Bool.false_and]; rfl, HW.out⟩
/-- two boxes: two hops -/
theorem send_start (w : World) (a1 a2 b1 b2 : Int) (W : World) (hW : (w.alloc (.cells #[.int .i64 a1, .int .i64 a2] 56)).alloc (.cells #[.int .i64 b1, .int .i64 b2] 56) = W) : Below w.heap.size w W ∧ W.cell? ⟨w.heap.size, 0, none⟩ = some (.int .i64 a1) ∧ W.cell? ⟨w.heap.size, 1, none⟩ = some (.int .i64 a2) ∧ W.cell? ⟨w.heap.size + 1, 0, none⟩ = some (.int .i64 b1) ∧ W.cell? ⟨w.heap.size + 1, 1, none⟩ = some (.int .i64 b2) := by
  have h3 : ∀ (u : World) (c d : Int), (u.alloc (.cells #[.int .i64 c, .int .i64 d] 56)).cell? ⟨u.heap.size, 0, none⟩ = some (.int .i64 c) ∧ (u.alloc (.cells #[.int .i64 c, .int .i64 d] 56)).cell? ⟨u.heap.size, 1, none⟩ = some (.int .i64 d) := fun u c d => ⟨by simp, by simp⟩
  have h4 := h3 w a1 a2
  have h5 := h3 (w.alloc (.cells #[.int .i64 a1, .int .i64 a2] 56)) b1 b2
  rw [World.size_alloc, hW] at h5
  have h6 := fresh (w.alloc (.cells #[.int .i64 a1, .int .i64 a2] 56)) (.cells #[.int .i64 b1, .int .i64 b2] 56)
  rw [hW] at h6
  exact ⟨by rw [← hW]; exact later (fresh _ _) (fresh _ _), (h6.cell (p := ⟨w.heap.size, 0, none⟩) (by simp)).trans h4.1, (h6.cell (p := ⟨w.heap.size, 1, none⟩) (by simp)).trans h4.2, h5.1, h5.2⟩
set_option maxHeartbeats 4000000 in
set_option maxRecDepth 100000 in
theorem sends_any {w : World} {p : PV} {es : List (Int × Int)} {ws : List Int} {rs : List (List Int)} {n : Nat} (h : PlN w p es ws rs) (hm : MayN p es rs n) (a1 a2 b1 b2 : Int) (h1 : 0 ≤ a1 ∧ a1 < (n : Int)) (h2 : 0 ≤ a2 ∧ a2 < (n : Int)) {k : Nat} (hk : k < n) {r : Bool} (hr : Route.waitAt rs a1 a2 b1 b2 k = r) :
    Calls Try.prog 44 #[.slice p.na p.nn p.nc, .agg #[.int .i64 a1, .int .i64 a2], .agg #[.int .i64 b1, .int .i64 b2], .int .i64 (k : Nat)] w fun e w' => e = .returned (.bool r) ∧ Below w.heap.size w w' := by
  have HS : Hid _ := send_start w a1 a2 b1 b2
  have HP : Hid (PlN w p es ws rs) := h
  have HM : Hid (MayN p es rs n) := hm
  have hn6 := hm.two
  have HR : Hid (Route.waitAt rs a1 a2 b1 b2 k = r) := hr
  have hkI : (k : Int) < (n : Int) := by omega
  clear h hm hr
  obtain ⟨N0, lanes, room, queue, rounds, every, bag, start, ea, en, ec, wa, wn, wc, na, nn, nc⟩ := p
  simp only
  go_enter Try.func44, Try.ntmps44
  go_wp2_with fail
  obtain ⟨hB, ca1, ca2, cb1, cb2⟩ := HS.out _ rfl
  have HB : Hid _ := hB
  clear HS hB
  generalize World.alloc _ _ = W at HB ca1 ca2 cb1 cb2 ⊢
  obtain ⟨ga, hga⟩ : ∃ g, w.heap.size = g := ⟨_, rfl⟩
  have HPW := HP.out.below HB.out
  have HG : Hid (w.heap.size = ga) := hga
  rw [hga] at HB ca1 ca2 cb1 cb2 ⊢
  obtain ⟨gb, hgb⟩ : ∃ g, ga + 1 = g := ⟨_, rfl⟩
  rw [hgb] at cb1 cb2 ⊢
  clear hga hgb HP
  obtain ⟨b, off, rb, ro, rc, e1, e2, x1, x2, _⟩ := HPW.next HM.out h1 (u := (k : Int)) ⟨by omega, hkI⟩
  obtain ⟨b', off', rb', ro', rc', e1', _, y1, y2, _⟩ := HPW.next HM.out h2 (u := (k : Int)) ⟨by omega, hkI⟩
  clear HPW
  simp only at e1 e2 e1'
  subst e1 e2
  cases e1'
  obtain ⟨z1, hz1⟩ : ∃ z, Route.nx rs a1 (k : Int) = z := ⟨_, rfl⟩
  obtain ⟨z2, hz2⟩ : ∃ z, Route.nx rs a2 (k : Int) = z := ⟨_, rfl⟩
  rw [hz1] at x2
  rw [hz2] at y2
  rw [Int.toNat_natCast] at x2 y2
  have HZ : Hid (Route.nx rs a1 (k : Int) = z1 ∧ Route.nx rs a2 (k : Int) = z2) := ⟨hz1, hz2⟩
  have hne := Since.any W
  have d1 := fun m : Since W => m.cell ca1
  have d2 := fun m : Since W => m.cell ca2
  have d3 := fun m : Since W => m.cell cb1
  have d4 := fun m : Since W => m.cell cb2
  have d5 := fun m : Since W => m.cell x1
  have d6 := fun m : Since W => m.cell x2
  have d7 := fun m : Since W => m.cell y1
  have d8 := fun m : Since W => m.cell y2
  clear hz1 hz2 x1 x2 y1 y2
  rcases (Classical.em (b1 = a2)).symm with t0 | t0
  · have g0 : (b1 == a2) = false := by simpa using t0
    obtain rfl : r = false := by
      rw [← HR.out]
      unfold Route.waitAt
      rw [HZ.out.1, HZ.out.2]
      rw [decide_eq_false (fun e => t0 e.symm)]
      rfl
    clear t0
    go_wp2_with fail
    refine region_since (u := W) (by kernel_rfl) (by kernel_rfl) (Below.refl _ _) ?_
    repeat (go_big_quiet_step (first | fail))
    refine wpQuiet_nil ?_
    intro _ hw'
    obtain ⟨nq, hw2⟩ := hw'
    subst hw2
    have HBq : Hid (Below w.heap.size w nq.w) := by show Below _ _ _; rw [HG.out]; exact HB.out.trans (nq.h.mono (by have := HB.out.size; have := HG.out; omega))
    clear hne d1 d2 d3 d4 d5 d6 d7 d8
    go_wp2_with fail
    go_ret
    exact ⟨rfl, HBq.out⟩
  have g0 : (b1 == a2) = true := by simpa using t0
  rcases (Classical.em ((k : Int) ≠ a1)).symm with t1 | t1
  · have g1 : ((k : Int) != a1) = false := by simpa using t1
    obtain rfl : r = false := by
      rw [← HR.out]
      unfold Route.waitAt
      rw [HZ.out.1, HZ.out.2]
      rw [decide_eq_false t1]
      simp
    clear t0 t1
    go_wp2_with fail
    refine region_since (u := W) (by kernel_rfl) (by kernel_rfl) (Below.refl _ _) ?_
    repeat (go_big_quiet_step (first | fail))
    refine wpQuiet_nil ?_
    intro _ hw'
    obtain ⟨nq, hw2⟩ := hw'
    subst hw2
    have HBq : Hid (Below w.heap.size w nq.w) := by show Below _ _ _; rw [HG.out]; exact HB.out.trans (nq.h.mono (by have := HB.out.size; have := HG.out; omega))
    clear hne d1 d2 d3 d4 d5 d6 d7 d8
    go_wp2_with fail
    go_ret
    exact ⟨rfl, HBq.out⟩
  have g1 : ((k : Int) != a1) = true := by simpa using t1
  rcases (Classical.em ((k : Int) ≠ a2)).symm with t2 | t2
  · have g2 : ((k : Int) != a2) = false := by simpa using t2
    obtain rfl : r = false := by
      rw [← HR.out]
      unfold Route.waitAt
      rw [HZ.out.1, HZ.out.2]
      rw [decide_eq_false t2]
      simp
    clear t0 t1 t2
    go_wp2_with fail
    refine region_since (u := W) (by kernel_rfl) (by kernel_rfl) (Below.refl _ _) ?_
    repeat (go_big_quiet_step (first | fail))
    refine wpQuiet_nil ?_
    intro _ hw'
    obtain ⟨nq, hw2⟩ := hw'
    subst hw2
    have HBq : Hid (Below w.heap.size w nq.w) := by show Below _ _ _; rw [HG.out]; exact HB.out.trans (nq.h.mono (by have := HB.out.size; have := HG.out; omega))
    clear hne d1 d2 d3 d4 d5 d6 d7 d8
    go_wp2_with fail
    go_ret
    exact ⟨rfl, HBq.out⟩
  have g2 : ((k : Int) != a2) = true := by simpa using t2
  rcases (Classical.em (z1 = a2)).symm with t3 | t3
  · have g3 : (z1 == a2) = false := by simpa using t3
    obtain rfl : r = false := by
      rw [← HR.out]
      unfold Route.waitAt
      rw [HZ.out.1, HZ.out.2]
      rw [decide_eq_false t3]
      simp
    clear t0 t1 t2 t3
    go_wp2_with fail
    refine region_since (u := W) (by kernel_rfl) (by kernel_rfl) (Below.refl _ _) ?_
    repeat (go_big_quiet_step (first | fail))
    refine wpQuiet_nil ?_
    intro _ hw'
    obtain ⟨nq, hw2⟩ := hw'
    subst hw2
    have HBq : Hid (Below w.heap.size w nq.w) := by show Below _ _ _; rw [HG.out]; exact HB.out.trans (nq.h.mono (by have := HB.out.size; have := HG.out; omega))
    clear hne d1 d2 d3 d4 d5 d6 d7 d8
    go_wp2_with fail
    go_ret
    exact ⟨rfl, HBq.out⟩
  have g3 : (z1 == a2) = true := by simpa using t3
  rcases (Classical.em (z2 = b2)).symm with t4 | t4
  · have g4 : (z2 == b2) = false := by simpa using t4
    obtain rfl : r = false := by
      rw [← HR.out]
      unfold Route.waitAt
      rw [HZ.out.1, HZ.out.2]
      rw [decide_eq_false t4]
      simp
    clear t0 t1 t2 t3 t4
    go_wp2_with fail
    refine region_since (u := W) (by kernel_rfl) (by kernel_rfl) (Below.refl _ _) ?_
    repeat (go_big_quiet_step (first | fail))
    refine wpQuiet_nil ?_
    intro _ hw'
    obtain ⟨nq, hw2⟩ := hw'
    subst hw2
    have HBq : Hid (Below w.heap.size w nq.w) := by show Below _ _ _; rw [HG.out]; exact HB.out.trans (nq.h.mono (by have := HB.out.size; have := HG.out; omega))
    clear hne d1 d2 d3 d4 d5 d6 d7 d8
    go_wp2_with fail
    go_ret
    exact ⟨rfl, HBq.out⟩
  have g4 : (z2 == b2) = true := by simpa using t4
  obtain rfl : r = true := by
    rw [← HR.out]
    unfold Route.waitAt
    rw [HZ.out.1, HZ.out.2, decide_eq_true t0.symm, decide_eq_true t1, decide_eq_true t2, decide_eq_true t3, decide_eq_true t4]
    rfl
  clear t0 t1 t2 t3 t4
  go_wp2_with fail
  refine region_since (u := W) (by kernel_rfl) (by kernel_rfl) (Below.refl _ _) ?_
  repeat (go_big_quiet_step (first | fail))
  refine wpQuiet_nil ?_
  intro _ hw'
  obtain ⟨nq, hw2⟩ := hw'
  subst hw2
  have HBq : Hid (Below w.heap.size w nq.w) := by show Below _ _ _; rw [HG.out]; exact HB.out.trans (nq.h.mono (by have := HB.out.size; have := HG.out; omega))
  clear hne d1 d2 d3 d4 d5 d6 d7 d8
  go_wp2_with fail
  go_ret
  exact ⟨rfl, HBq.out⟩
end Go.Proofs.Ytphaaolnmbadcaa
namespace Go.Proofs.Ytphaaolnmbadcaa
open Go.ChangeShapes Go.WideShapes Go.ChangeAt Go.RowKit
set_option linter.unusedVariables false

theorem rnoGoto_ret {Q : Exit → Act → World → Prop} {a : Act} {w : World} (h : Q .ret a w) : Exit.noGoto Q .ret a w := h
theorem box_two (w : World) (c d : Int) (W : World) (hW : w.alloc (.cells #[.int .i64 c, .int .i64 d] 56) = W) : Below w.heap.size w W ∧ W.cell? ⟨w.heap.size, 0, none⟩ = some (.int .i64 c) ∧ W.cell? ⟨w.heap.size, 1, none⟩ = some (.int .i64 d) ∧ W.heap.size = w.heap.size + 1 := by
  subst hW
  exact ⟨fresh _ _, by simp, by simp, by simp⟩
set_option maxHeartbeats 4000000 in
set_option maxRecDepth 100000 in
theorem behind_any {w : World} {p : PV} {es : List (Int × Int)} {ws : List Int} {rs : List (List Int)} {n : Nat} (h : PlN w p es ws rs) (hm : MayN p es rs n) {a : Option Addr} {m c : Nat} {hs : List (Int × Int)} (hh : Pr w a m hs) (hmx : m ≤ 36) (a1 a2 : Int) (h1 : 0 ≤ a1 ∧ a1 < (n : Int)) (h2 : 0 ≤ a2 ∧ a2 < (n : Int)) :
    Calls Try.prog 28 #[.slice p.na p.nn p.nc, .slice a m c, .agg #[.int .i64 a1, .int .i64 a2]] w fun e w' => ∃ v, e = .returned v ∧ w'.ownsRow w.heap.size 3 1 v (Route.rowTo n rs hs (a1, a2) m).length (zcells (Route.rowTo n rs hs (a1, a2) m)) ∧ Below w.heap.size w w' := by
  have HX : Hid _ := box_two w a1 a2
  have HP : Hid (PlN w p es ws rs) := h
  have HM : Hid (MayN p es rs n) := hm
  have HH : Hid (Pr w a m hs) := hh
  have HHl : Hid (hs.length = m) := hh.1
  have hnn : p.nn = n := by rw [← h.mr.1]; exact hm.rows
  have hn6 := hm.two.2
  clear h hm hh
  obtain ⟨na, hna⟩ : ∃ x, p.na = x := ⟨_, rfl⟩
  obtain ⟨nc, hnc⟩ : ∃ x, p.nc = x := ⟨_, rfl⟩
  have HPe : Hid (p.na = na ∧ p.nn = n ∧ p.nc = nc) := ⟨hna, hnn, hnc⟩
  rw [hna, hnn, hnc]
  clear hna hnn hnc
  go_enter Try.func28, Try.ntmps28
  go_wp2_with fail
  refine wp_scope_straight ?_
  go_wp2_with fail
  obtain ⟨hB, ca1, ca2, hsz⟩ := HX.out _ rfl
  have HB : Hid _ := hB
  have HC : Hid (_ ∧ _) := ⟨ca1, ca2⟩
  have HSz : Hid _ := hsz
  clear HX hB ca1 ca2 hsz
  generalize World.alloc _ _ = W at HB HC HSz ⊢
  obtain ⟨g, hg⟩ : ∃ g, w.heap.size = g := ⟨_, rfl⟩
  have HG : Hid (w.heap.size = g) := hg
  have HPW : Hid (PlN W p es ws rs) := HP.out.below HB.out
  have HHW : Hid (Pr W a m hs) := HH.out.below HB.out
  rw [hg] at HB HC HSz ⊢
  clear hg HP HH
  try refine wp_label ?_
  go_wp2_with fail
  go_loopw [7, 13] (fun u i wr => ∃ k : Nat, k ≤ m ∧ i = .int .i64 k ∧ wr.ownsRow W.heap.size 3 1 u (Route.rowTo n rs hs (a1, a2) k).length (zcells (Route.rowTo n rs hs (a1, a2) k)) ∧ Below W.heap.size W wr) (fun _ i _ => m - (intOf i).toNat)
  case atStart => exact ⟨0, Nat.zero_le _, rfl, World.ownsRow_nil _ _ _ _, Below.refl _ _⟩
  case round =>
    obtain ⟨k, hk, rfl, hO, hBr⟩ := hrel
    have HO : Hid (wr.ownsRow W.heap.size 3 1 u7 (Route.rowTo n rs hs (a1, a2) k).length (zcells (Route.rowTo n rs hs (a1, a2) k))) := hO
    have HBr : Hid (Below W.heap.size W wr) := hBr
    clear hO hBr
    by_cases hkm : k < m
    · obtain ⟨hb, ho, eh, ch1, ch2⟩ := (HHW.out.below HBr.out).at hkm
      subst eh
      obtain ⟨b1, hb1⟩ : ∃ z, (hs.getD k (0, 0)).1 = z := ⟨_, rfl⟩
      obtain ⟨b2, hb2⟩ : ∃ z, (hs.getD k (0, 0)).2 = z := ⟨_, rfl⟩
      have HBt : Hid (hs.getD k (0, 0) = (b1, b2)) := by show _ = _; rw [← hb1, ← hb2]
      rw [hb1] at ch1
      rw [hb2] at ch2
      clear hb1 hb2
      have HX2 : Hid _ := box_two wr b1 b2
      go_wp2_with fail
      obtain ⟨hB2, cb1, cb2, hsz2⟩ := HX2.out _ rfl
      have HB2 : Hid _ := hB2
      have HD : Hid (_ ∧ _) := ⟨cb1, cb2⟩
      have HSz2 : Hid _ := hsz2
      clear HX2 hB2 cb1 cb2 hsz2 ch1 ch2
      generalize World.alloc _ _ = W2 at HB2 HD HSz2 ⊢
      obtain ⟨g2, hg2⟩ : ∃ g, wr.heap.size = g := ⟨_, rfl⟩
      have HG2 : Hid (wr.heap.size = g2) := hg2
      have HO2 : Hid (W2.ownsRow W.heap.size 3 1 u7 (Route.rowTo n rs hs (a1, a2) k).length (zcells (Route.rowTo n rs hs (a1, a2) k))) := owns_below HO.out HB2.out
      have HBW : Hid (Below W.heap.size W W2) := later HBr.out HB2.out
      rw [hg2] at HB2 HD HSz2 ⊢
      clear hg2
      obtain ⟨pl, hpl⟩ : ∃ v, v = u7 := ⟨_, rfl⟩
      subst hpl
      go_loopw [7, 20] (fun u i wi => ∃ j : Nat, j ≤ n ∧ i = .int .i64 j ∧ u = pl ∧ (∀ t, t < j → Route.waitAt rs a1 a2 b1 b2 t = false) ∧ Below W2.heap.size W2 wi) (fun _ i _ => n - (intOf i).toNat)
      case atStart => exact ⟨0, Nat.zero_le _, rfl, rfl, fun t ht => by omega, Below.refl _ _⟩
      case round =>
        obtain ⟨j, hj, rfl, rfl, hno, hBi⟩ := hrel
        have HN : Hid (∀ t, t < j → Route.waitAt rs a1 a2 b1 b2 t = false) := hno
        have HBi : Hid (Below W2.heap.size W2 wr) := hBi
        have HBWi : Hid (Below W.heap.size W wr) := later HBW.out hBi
        have hcl : W2.heap.size = g2 + 1 := HSz2.out
        have hcl1 : W.heap.size = g + 1 := HSz.out
        have hcg : W.heap.size ≤ W2.heap.size := HBW.out.size
        have ra1 : wr.cell? ⟨g, 0, none⟩ = some (.int .i64 a1) := (HBWi.out.cell (p := ⟨g, 0, none⟩) (by show g < _; omega)).trans HC.out.1
        have ra2 : wr.cell? ⟨g, 1, none⟩ = some (.int .i64 a2) := (HBWi.out.cell (p := ⟨g, 1, none⟩) (by show g < _; omega)).trans HC.out.2
        have rb1 : wr.cell? ⟨g2, 0, none⟩ = some (.int .i64 b1) := (hBi.cell (p := ⟨g2, 0, none⟩) (by show g2 < _; omega)).trans HD.out.1
        have rb2 : wr.cell? ⟨g2, 1, none⟩ = some (.int .i64 b2) := (hBi.cell (p := ⟨g2, 1, none⟩) (by show g2 < _; omega)).trans HD.out.2
        clear hno hBi hcl hcl1 hcg
        by_cases hjn : j < n
        · obtain ⟨r, hr⟩ : ∃ r, Route.waitAt rs a1 a2 b1 b2 j = r := ⟨_, rfl⟩
          have HR : Hid (Route.waitAt rs a1 a2 b1 b2 j = r) := hr
          have HCall : Hid _ := sends_any (HPW.out.below HBWi.out) HM.out a1 a2 b1 b2 h1 h2 hjn hr
          rw [HPe.out.1, HPe.out.2.1, HPe.out.2.2] at HCall
          clear hr
          cases r with
          | true =>
            have HE : Hid (Route.rowTo n rs hs (a1, a2) k ++ [(k : Int)] = Route.rowTo n rs hs (a1, a2) (k + 1)) := by
              show _ = _
              rw [Route.rowTo_yes]
              rw [HBt.out]
              exact Route.wait_yes hjn HR.out
            have hkl := Route.rowTo_len n rs hs (a1, a2) k
            go_wp2_with fail
            refine Calls.mono HCall.out ?_
            rintro e w3 ⟨rfl, hB3⟩
            have HB3 : Hid (Below W2.heap.size W2 w3) := later HBi.out hB3
            clear hB3 ra1 ra2 rb1 rb2
            have hs3 : W.heap.size ≤ w3.heap.size := Nat.le_trans HBW.out.size HB3.out.size
            have HO3 : Hid (w3.ownsRow W.heap.size 3 1 u7 (Route.rowTo n rs hs (a1, a2) k).length (zcells (Route.rowTo n rs hs (a1, a2) k))) := owns_below HO2.out HB3.out
            go_wp2_with (at_builtin; refine wpList_append_z rfl (.tmp 28) (.tmp 30) rfl W.heap.size _ (Route.rowTo n rs hs (a1, a2) k) rfl (owns_below HO3.out (fresh _ _)) (by simp; omega) (some ⟨w3.heap.size, 0, none⟩) 1 1 [(k : Int)] rfl (zr_one _ _) (fun e => by cases e) (by omega) _ HE.out ?_; intro v' w4 hown hB4)
            have HR4 : Hid (Below W.heap.size W w4) := (later HBW.out HB3.out).trans ((fresh _ _).mono hs3 |>.trans hB4)
            go_roundw
            case rel => first | exact ⟨k + 1, by omega, by go_num, hown, HR4.out⟩ | ((repeat apply Exists.intro); exact ⟨⟨k + 1, by omega, by go_num, hown, HR4.out⟩, rfl⟩)
            case measure => simp [intOf]; omega
          | false =>
            go_wp2_with fail
            refine Calls.mono HCall.out ?_
            rintro e w3 ⟨rfl, hB3⟩
            have HB3 : Hid (Below W2.heap.size W2 w3) := later HBi.out hB3
            have HN2 : Hid (∀ t, t < j + 1 → Route.waitAt rs a1 a2 b1 b2 t = false) := fun t ht => by
              by_cases e : t = j
              · rw [e]; exact HR.out
              · exact HN.out t (by omega)
            clear hB3 ra1 ra2 rb1 rb2
            go_wp2_with fail
            go_roundw
            case rel => first | exact ⟨j + 1, by omega, by go_num, rfl, HN2.out, HB3.out⟩ | exact ⟨j + 1, by omega, by go_num, trivial, HN2.out, HB3.out⟩ | ((repeat apply Exists.intro); exact ⟨⟨j + 1, by omega, by go_num, rfl, HN2.out, HB3.out⟩, rfl⟩)
            case measure => simp [intOf]; omega
        · obtain rfl : j = n := by omega
          have HE : Hid (Route.rowTo j rs hs (a1, a2) k = Route.rowTo j rs hs (a1, a2) (k + 1)) := by
            show _ = _
            rw [Route.rowTo_no]
            rw [HBt.out]
            exact Route.wait_no (fun t ht => HN.out t ht)
          have HO3 : Hid (wr.ownsRow W.heap.size 3 1 u7 (Route.rowTo j rs hs (a1, a2) (k + 1)).length (zcells (Route.rowTo j rs hs (a1, a2) (k + 1)))) := by
            show wr.ownsRow _ _ _ _ _ _
            rw [← HE.out]
            exact owns_below HO2.out HBi.out
          clear ra1 ra2 rb1 rb2
          go_wp2_with fail
          go_roundw
          case rel => first | exact ⟨k + 1, by omega, by go_num, HO3.out, HBWi.out⟩ | ((repeat apply Exists.intro); exact ⟨⟨k + 1, by omega, by go_num, HO3.out, HBWi.out⟩, rfl⟩)
          case measure => simp [intOf]; omega
    · obtain rfl : k = m := by omega
      go_wp2_with fail
      refine rnoGoto_ret ?_
      go_ret
      exact ⟨_, rfl, owns_mono HO.out (by have := HSz.out; have := HG.out; omega), by rw [HG.out]; exact HB.out.trans (HBr.out.mono (by have := HSz.out; omega))⟩
end Go.Proofs.Ytphaaolnmbadcaa
namespace Go.Proofs.Ytphaaolnmbadcaa
open Go.ChangeShapes Go.WideShapes Go.ChangeAt Go.RowKit
set_option linter.unusedVariables false

/-- a slice that leads to a plan's ways, those cut that lead to none beside -/
structure CutAt (w : World) (a : Option Addr) (es : List (Int × Int)) (rs : List (List Int)) (n : Nat) : Prop where
  mr : Mr w a n (Route.cut es rs)
  two : 2 ≤ n ∧ n ≤ 6
  rows : rs.length = n
  row : ∀ i, i < n → (rs.getD i []).length = n
  bes : ∀ {v u : Int}, u ∈ Plan.bes es v → 0 ≤ u ∧ u < (n : Int)
theorem CutAt.below {w w' : World} {a : Option Addr} {es : List (Int × Int)} {rs : List (List Int)} {n : Nat} (h : CutAt w a es rs n) (k : Below w.heap.size w w') : CutAt w' a es rs n := ⟨h.mr.below k, h.two, h.rows, h.row, h.bes⟩
theorem CutAt.next {w : World} {a : Option Addr} {es : List (Int × Int)} {rs : List (List Int)} {n : Nat} (h : CutAt w a es rs n) {v u : Int} (hv : 0 ≤ v ∧ v < (n : Int)) (hu : 0 ≤ u ∧ u < (n : Int)) :
    ∃ b off rb ro rc, a = some ⟨b, off, none⟩ ∧ w.cell? ⟨b, off + v.toNat, none⟩ = some (.slice (some ⟨rb, ro, none⟩) n rc) ∧ w.cell? ⟨rb, ro + u.toNat, none⟩ = some (.int .i64 (if Plan.port es v (Route.nx rs v u) < 0 then -1 else Route.nx rs v u)) := by
  have hr := h.rows
  have hrw := h.row v.toNat (by omega)
  obtain ⟨b, off, ra, rc, e, hc, hz, _⟩ := h.mr.at (k := v.toNat) (by omega)
  have hl : ((Route.cut es rs).getD v.toNat []).length = n := by rw [Route.cut_at (by omega), Route.cutRow_len]; exact hrw
  rw [hl] at hc hz
  obtain ⟨rb, ro, e2, hc2⟩ := hz.at (k := u.toNat) (by omega)
  subst e2
  refine ⟨b, off, rb, ro, rc, e, hc, ?_⟩
  have hx := Route.nx_cut (es := es) (rs := rs) (v := v) (w := u) (by omega) (by rw [hrw]; exact hu)
  rw [← hx]
  exact hc2
set_option maxHeartbeats 4000000 in
set_option maxRecDepth 100000 in
theorem walk_any {w : World} {a : Option Addr} {n c : Nat} {es : List (Int × Int)} {rs : List (List Int)} (h : CutAt w a es rs n) (v u : Int) (hv : 0 ≤ v ∧ v < (n : Int)) (hu : 0 ≤ u ∧ u < (n : Int)) {R : List Int} (hR : Route.go es rs u (n - 1) v = R) :
    Calls Try.prog 26 #[.slice a n c, .int .i64 v, .int .i64 u] w fun e w' => ∃ x, e = .returned x ∧ w'.ownsRow w.heap.size 3 1 x R.length (zcells R) ∧ (R = [] → x = .slice none 0 0) ∧ Below w.heap.size w w' := by
  have HC : Hid (CutAt w a es rs n) := h
  have hn6 := h.two
  have HR0 : Hid (Route.behind [] (Route.go es rs u (n - 1) v) = R) := by
    show _ = _
    rw [← hR]
    unfold Route.behind
    split
    · rename_i h; rw [h]
    · rfl
  clear h hR
  have HO0 : Hid ((w.alloc (.cells #[.int .i64 v] 3)).ownsRow w.heap.size 3 1 (.slice (some ⟨w.heap.size, 0, none⟩) 1 1) ([] ++ [v]).length (zcells ([] ++ [v]))) := World.ownsRow_lit (base := w.heap.size) (e := 3) (size := 1) w #[.int .i64 v] 1 (Nat.le_refl _) (by unfold maxLen; omega) (by simp)
  have HB0 : Hid (Below w.heap.size w (w.alloc (.cells #[.int .i64 v] 3))) := fresh _ _
  go_enter Try.func26, Try.ntmps26
  go_wp2_with fail
  generalize w.alloc _ = W at HO0 HB0 ⊢
  go_loopw [7, 8] (fun out q wr => ∃ (pre : List Int) (y : Int) (f : Nat), q = .int .i64 y ∧ (0 ≤ y ∧ y < (n : Int)) ∧ pre.length + 1 + f = n ∧ Route.behind pre (Route.go es rs u f y) = R ∧ wr.ownsRow w.heap.size 3 1 out (pre ++ [y]).length (zcells (pre ++ [y])) ∧ Below w.heap.size w wr) (fun out _ _ => n - lenV out)
  case atStart => exact ⟨[], v, n - 1, rfl, hv, by simp; omega, HR0.out, HO0.out, HB0.out⟩
  case round =>
    obtain ⟨pre, y, f, rfl, hy, hf, hgo, hO, hB⟩ := hrel
    have HO : Hid (wr.ownsRow w.heap.size 3 1 u7 (pre ++ [y]).length (zcells (pre ++ [y]))) := hO
    have HB : Hid (Below w.heap.size w wr) := hB
    have HGo : Hid (Route.behind pre (Route.go es rs u f y) = R) := hgo
    have hpl : (pre ++ [y]).length = pre.length + 1 := by simp
    have hgw : w.heap.size ≤ wr.heap.size := hB.size
    clear hO hB hgo
    obtain ⟨a7, c7, hv7, hz7, hl7, hm7, hn7, hg7⟩ := zr_of_owns HO.out
    subst hv7
    obtain ⟨m, hm⟩ : ∃ m, (pre ++ [y]).length = m := ⟨_, rfl⟩
    have HO1 : Hid (wr.ownsRow w.heap.size 3 1 (.slice a7 m c7) (pre ++ [y]).length (zcells (pre ++ [y]))) := by rw [← hm]; exact HO.out
    rw [hm] at hpl hl7 ⊢
    clear hm HO
    have HPl : Hid (m = pre.length + 1) := hpl
    have HF0 : Hid (pre.length + 1 + f = n) := hf
    clear hpl hf hz7 hg7
    by_cases hyu : y = u
    · have HF : Hid (R = pre ++ [y]) := by
        show _ = _
        rw [← HGo.out, hyu, Route.behind_self]
      have g : (y != u) = false := by simpa using hyu
      clear hyu
      go_wp2_with fail
      go_ret
      rw [HF.out]
      exact ⟨_, rfl, HO1.out, fun e => by simp at e, HB.out⟩
    · have g : (y != u) = true := by simpa using hyu
      obtain ⟨nb, no, rb, ro, rc, e1, cx1, cx2⟩ := (HC.out.below HB.out).next hy hu
      subst e1
      obtain ⟨x, hx⟩ : ∃ x, Route.nx rs y u = x := ⟨_, rfl⟩
      have HNx : Hid (Route.nx rs y u = x) := hx
      rw [hx] at cx2
      clear hx
      have HYU : Hid (y ≠ u) := hyu
      clear hyu
      by_cases hp : Plan.port es y x < 0
      · rw [if_pos hp] at cx2
        have HF : Hid (R = []) := by
          show _ = _
          rw [← HGo.out, Route.go_no HYU.out (by rw [HNx.out]; exact hp), Route.behind_nil]
        clear hp
        go_wp2_with fail
        go_ret
        rw [HF.out]
        exact ⟨_, rfl, World.ownsRow_nil _ _ _ _, fun _ => rfl, HB.out⟩
      · rw [if_neg hp] at cx2
        have HIn : Hid (0 ≤ x ∧ x < (n : Int)) := HC.out.bes (Route.port_pos' hp)
        have HPp : Hid (¬ Plan.port es y (Route.nx rs y u) < 0) := by show ¬ _; rw [HNx.out]; exact hp
        have g1 : (x == -1) = false := by have := HIn.out; simp; omega
        clear hp
        cases f with
        | zero =>
          have HF : Hid (R = []) := by
            show _ = _
            rw [← HGo.out, Route.go_zero HYU.out, Route.behind_nil]
          have g2 : ((m : Int) == (n : Int)) = true := by have := HPl.out; have := HF0.out; simp; omega
          have g3 : (m == n) = true := by have := HPl.out; have := HF0.out; simp; omega
          go_wp2_with fail
          go_ret
          rw [HF.out]
          exact ⟨_, rfl, World.ownsRow_nil _ _ _ _, fun _ => rfl, HB.out⟩
        | succ f =>
          have hmn : m < n := by have := HPl.out; have := HF0.out; omega
          have g2 : ((m : Int) == (n : Int)) = false := by simp; omega
          have g3 : (m == n) = false := by simp; omega
          have HF : Hid (Route.behind (pre ++ [y]) (Route.go es rs u f x) = R) := by
            show _ = _
            rw [← HGo.out, Route.behind_on pre HYU.out HPp.out, HNx.out]
          have hm6 : m ≤ 6 := by omega
          have HML : Hid ((pre ++ [y]).length = m) := by show _ = _; rw [HPl.out]; simp
          go_wp2_with (at_builtin; refine wpList_append_z rfl (.tmp 31) (.tmp 33) rfl w.heap.size (.slice a7 m c7) (pre ++ [y]) rfl (owns_below HO1.out (fresh _ _)) (by simp; omega) (some ⟨wr.heap.size, 0, none⟩) 1 1 [x] rfl (zr_one wr _) (fun e => by cases e) (by rw [HML.out]; omega) _ rfl ?_; intro v8 w8 hown8 hB8)
          have HO8 : Hid (w8.ownsRow w.heap.size 3 1 v8 (pre ++ [y] ++ [x]).length (zcells (pre ++ [y] ++ [x]))) := hown8
          have HBz : Hid (Below w.heap.size w w8) := (HB.out.alloc hgw _).trans hB8
          obtain ⟨a8, c8, hv8, _⟩ := zr_of_owns hown8
          have hl8 : (pre ++ [y] ++ [x]).length = m + 1 := by rw [List.length_append, HML.out]; rfl
          rw [hl8] at hv8
          subst hv8
          go_roundw
          case rel =>
            have R1 : (pre ++ [y]).length + 1 + f = n := by have := HML.out; have := HPl.out; have := HF0.out; omega
            first | exact ⟨pre ++ [y], x, f, rfl, HIn.out, R1, HF.out, HO8.out, HBz.out⟩ | ((repeat apply Exists.intro); exact ⟨⟨rfl, HIn.out, R1, HF.out, HO8.out, HBz.out⟩, rfl⟩)
          case measure => simp [lenV]; omega
/-- do all come? -/
def Route.come (es : List (Int × Int)) (rs : List (List Int)) (n : Nat) : Prop := ∀ v, v < n → ∀ u, u < n → Route.go es rs (u : Int) (n - 1) (v : Int) ≠ []
set_option maxHeartbeats 4000000 in
set_option maxRecDepth 100000 in
theorem allcome_any {w : World} {a : Option Addr} {n c : Nat} {es : List (Int × Int)} {rs : List (List Int)} (h : CutAt w a es rs n) :
    Calls Try.prog 22 #[.slice a n c] w fun e w' => ∃ b : Bool, e = .returned (.bool b) ∧ (b = true → Route.come es rs n) ∧ (b = false → ∃ v, v < n ∧ ∃ u, u < n ∧ Route.go es rs (u : Int) (n - 1) (v : Int) = []) ∧ Below w.heap.size w w' := by
  have HC : Hid (CutAt w a es rs n) := h
  have hn6 := h.two
  have q29 : ∀ (w : World) (a : Option Addr) (n c n' c' : Nat), (binOp .eql 23 (.slice a n c) (.slice none n' c')).run Try.prog w = .ok (.bool a.isNone) w := fun w a n c n' c' => Lib.run_eql_slice_nil w _ _ a n c n' c' Try.underlying23
  have HQ : Hid _ := q29
  clear h q29
  go_enter Try.func22, Try.ntmps22
  go_wp2_with fail
  go_loopw [7] (fun i wr => ∃ k : Nat, k ≤ n ∧ i = .int .i64 k ∧ (∀ v, v < k → ∀ u, u < n → Route.go es rs (u : Int) (n - 1) (v : Int) ≠ []) ∧ Below w.heap.size w wr) (fun i _ => n - (intOf i).toNat)
  case atStart => exact ⟨0, Nat.zero_le _, rfl, fun v hv => by omega, Below.refl _ _⟩
  case round =>
    obtain ⟨k, hk, rfl, hno, hB⟩ := hrel
    have HN : Hid (∀ v, v < k → ∀ u, u < n → Route.go es rs (u : Int) (n - 1) (v : Int) ≠ []) := hno
    have HB : Hid (Below w.heap.size w wr) := hB
    clear hno hB
    by_cases hkn : k < n
    · go_wp2_with fail
      go_loopw [12] (fun i wi => ∃ j : Nat, j ≤ n ∧ i = .int .i64 j ∧ (∀ u, u < j → Route.go es rs (u : Int) (n - 1) (k : Int) ≠ []) ∧ Below w.heap.size w wi) (fun i _ => n - (intOf i).toNat)
      case atStart => exact ⟨0, Nat.zero_le _, rfl, fun v hv => by omega, HB.out⟩
      case round =>
        obtain ⟨j, hj, rfl, hno2, hB2⟩ := hrel
        have HN2 : Hid (∀ u, u < j → Route.go es rs (u : Int) (n - 1) (k : Int) ≠ []) := hno2
        have HB2 : Hid (Below w.heap.size w wr) := hB2
        clear hno2 hB2
        by_cases hjn : j < n
        · obtain ⟨R, hR⟩ : ∃ R, Route.go es rs (j : Int) (n - 1) (k : Int) = R := ⟨_, rfl⟩
          have HR : Hid (Route.go es rs (j : Int) (n - 1) (k : Int) = R) := hR
          have HCall : Hid _ := walk_any (c := c) (HC.out.below HB2.out) (k : Int) (j : Int) (by omega) (by omega) hR
          clear hR
          cases R with
          | nil =>
            have HF : Hid (∃ v, v < n ∧ ∃ u, u < n ∧ Route.go es rs (u : Int) (n - 1) (v : Int) = []) := ⟨k, hkn, j, hjn, HR.out⟩
            go_wp2_with fail
            refine Calls.mono HCall.out ?_
            rintro e w3 ⟨x, rfl, hO3, hE3, hB3⟩
            obtain rfl := hE3 (by trivial)
            have HB3 : Hid (Below w.heap.size w w3) := later HB2.out hB3
            have q29 := HQ.out
            clear hO3 hE3 hB3 HCall
            go_wp2_with fail
            go_ret
            exact ⟨false, rfl, fun e => (by cases e), fun _ => HF.out, HB3.out⟩
          | cons r0 R =>
            go_wp2_with fail
            refine Calls.mono HCall.out ?_
            rintro e w3 ⟨x, rfl, hO3, hE3, hB3⟩
            obtain ⟨a3, c3, rfl, _, _, _, _, ⟨_, h0⟩ | ⟨g3, rfl, _⟩⟩ := zr_of_owns hO3
            · cases h0
            have HB3 : Hid (Below w.heap.size w w3) := later HB2.out hB3
            have HN3 : Hid (∀ u, u < j + 1 → Route.go es rs (u : Int) (n - 1) (k : Int) ≠ []) := fun u hu => by
              by_cases e : u = j
              · subst e
                rw [HR.out]
                exact List.cons_ne_nil _ _
              · exact HN2.out u (by omega)
            have q29 := HQ.out
            clear hO3 hE3 hB3 HCall
            go_wp2_with fail
            go_roundw
            case rel => first | exact ⟨j + 1, by omega, by go_num, HN3.out, HB3.out⟩ | ((repeat apply Exists.intro); exact ⟨⟨j + 1, by omega, by go_num, HN3.out, HB3.out⟩, rfl⟩)
            case measure => simp [intOf]; omega
        · obtain rfl : j = n := by omega
          have HN3 : Hid (∀ v, v < k + 1 → ∀ u, u < j → Route.go es rs (u : Int) (j - 1) (v : Int) ≠ []) := fun v hv => by
            by_cases e : v = k
            · subst e
              exact HN2.out
            · exact HN.out v (by omega)
          go_wp2_with fail
          go_roundw
          case rel => first | exact ⟨k + 1, by omega, by go_num, HN3.out, HB2.out⟩ | ((repeat apply Exists.intro); exact ⟨⟨k + 1, by omega, by go_num, HN3.out, HB2.out⟩, rfl⟩)
          case measure => simp [intOf]; omega
    · obtain rfl : k = n := by omega
      go_wp2_with fail
      go_ret
      exact ⟨true, rfl, fun _ => HN.out, fun e => (by cases e), HB.out⟩
end Go.Proofs.Ytphaaolnmbadcaa
namespace Go.Proofs.Ytphaaolnmbadcaa
open Go.ChangeShapes Go.WideShapes Go.ChangeAt Go.RowKit
set_option linter.unusedVariables false

theorem cut_snoc {xs ys : List Value} {k : Nat} (v : Value) (h : k < xs.length) (ht : xs.take k = ys) : (xs.set k v).take (k + 1) = ys ++ [v] := by
  rw [List.take_succ_eq_append_getElem (by rw [List.length_set]; exact h), List.getElem_set_self, List.take_set_of_le (by omega), ht]
theorem infoRR : (Try.prog.info? 23).map (fun i => (i.zero, i.size, i.bytes)) = some (some (.slice none 0 0), 1, 24) := by kernel_rfl
theorem RowA.keep {F : Nat → Prop} {w w' : World} {base : Nat} {r : Option Nat} {x : Value} {l : List Int} (h : RowA w base r x l) (k : Sans F w w') (hF : ∀ j, base ≤ j → j < w.heap.size → r ≠ some j → ¬ F j) : RowA w' base r x l := by
  obtain ⟨ra, rc, h1, h2, h3, h4, h5, h6⟩ := h
  exact ⟨ra, rc, h1, h2.sans k (fun ad e => hF _ (h6 ad e).1 (h6 ad e).2.1 (h6 ad e).2.2), h3, h4, h5, fun ad e => ⟨(h6 ad e).1, Nat.lt_of_lt_of_le (h6 ad e).2.1 k.size, (h6 ad e).2.2⟩⟩
theorem row_step {X wi u : World} {R m j : Nat} {ys : List Value} {l : List Int} {z : Int} (hS : Sans (fun k => k = R) X wi) (hO : wi.ownsRow R 3 1 (.slice (some ⟨R, 0, none⟩) m m) m ys) (hy : ys.take j = zcells (l.take j)) (hj : j < m) (hl : l.take j ++ [z] = l.take (j + 1)) (hB : Below wi.heap.size wi u) :
    Sans (fun k => k = R) X (u.setCell ⟨R, j, none⟩ (.int .i64 z)) ∧ (u.setCell ⟨R, j, none⟩ (.int .i64 z)).ownsRow R 3 1 (.slice (some ⟨R, 0, none⟩) m m) m (ys.set j (.int .i64 z)) ∧ (ys.set j (.int .i64 z)).take (j + 1) = zcells (l.take (j + 1)) := by
  have hl0 := hO.1
  refine ⟨(hS.then (Sans.of_below hB)).then (Sans.of_set u ⟨R, j, none⟩ _ rfl), ((owns_below hO hB).stored j _).1, ?_⟩
  rw [cut_snoc _ (by omega) hy, ← hl, ← zcells_append]
  rfl
theorem made_row (w : World) (n : Nat) (hn : n ≤ 200) : (w.alloc (.cells (madeCells #[.int .i64 0] n) 3)).ownsRow w.heap.size 3 1 (.slice (some ⟨w.heap.size, 0, none⟩) n n) n (madeCells #[.int .i64 0] n).toList :=
  World.ownsRow_lit w _ n (Nat.le_refl _) (by unfold maxLen; omega) (by rw [size_madeCells]; omega)
theorem made_rows (w : World) (n : Nat) (hn : n ≤ 200) : (w.alloc (.cells (madeCells #[.slice none 0 0] n) 23)).ownsRow w.heap.size 23 1 (.slice (some ⟨w.heap.size, 0, none⟩) n n) n (madeCells #[.slice none 0 0] n).toList :=
  World.ownsRow_lit w _ n (Nat.le_refl _) (by unfold maxLen; omega) (by rw [size_madeCells]; omega)
theorem row_own (w : World) (R m : Nat) (ys : List Value) (l : List Int) (hO : w.ownsRow R 3 1 (.slice (some ⟨R, 0, none⟩) m m) m ys) (hy : ys.take m = zcells (l.take m)) (hl : l.length = m) (G base : Nat) (hG : G ≠ R) (hb : base ≤ R) : RowA w base (some G) (.slice (some ⟨R, 0, none⟩) m m) l := by
  have h0 := hO.1
  rw [List.take_of_length_le (by omega), List.take_of_length_le (by omega)] at hy
  subst hy
  subst hl
  obtain ⟨a, cap, e, hz, h1, h2, h3, h4⟩ := zr_of_owns hO
  simp only [Value.slice.injEq] at e
  obtain ⟨e1, _, e3⟩ := e
  subst e1 e3
  refine ⟨_, _, rfl, hz, h1, h2, h3, fun ad e => ?_⟩
  cases e
  exact ⟨hb, (hO.lt R rfl).2, fun e => hG (Option.some.inj e)⟩
end Go.Proofs.Ytphaaolnmbadcaa
namespace Go.Proofs.Ytphaaolnmbadcaa
open Go.ChangeShapes Go.WideShapes Go.ChangeAt Go.RowKit
set_option linter.unusedVariables false

set_option maxHeartbeats 1000000 in
set_option maxRecDepth 100000 in
theorem zclone_some {w : World} {ad : Addr} {n c : Nat} {l : List Int} (h : Zr w (some ad) n l) (hn : n ≤ 17592186044416) :
    Calls Try.prog 38 #[.slice (some ad) n c] w fun e w' => ∃ v, e = .returned v ∧ w'.ownsRow w.heap.size 3 1 v l.length (zcells l) ∧ Below w.heap.size w w' := by
  have q29 : ∀ (w : World) (a : Option Addr) (n c n' c' : Nat), (binOp .eql 23 (.slice a n c) (.slice none n' c')).run Try.prog w = .ok (.bool a.isNone) w := fun w a n c n' c' => Lib.run_eql_slice_nil w _ _ a n c n' c' Try.underlying23
  have HZ : Hid (Zr w (some ad) n l) := h
  clear h
  have HO : Hid ((w.alloc (.cells #[] 3)).ownsRow w.heap.size 3 1 (.slice (some ⟨w.heap.size, 0, none⟩) 0 0) 0 []) := World.ownsRow_made (base := w.heap.size) (e := 3) (size := 1) w #[] 0 (Nat.le_refl _) (by unfold maxLen; omega) (by simp)
  go_enter Try.func38, Try.ntmps38
  go_wp2_with (at_builtin; refine wpList_append_z rfl (.tmp 5) (.tmp 6) rfl w.heap.size (.slice (some ⟨w.heap.size, 0, none⟩) 0 0) [] rfl HO.out (by simp) (some ad) n c l rfl (HZ.out.below (fresh _ _)) (fun e => by cases e) (by simp; omega) l rfl ?_; intro v' w2 hown hB2)
  go_ret
  exact ⟨_, rfl, hown, (fresh _ _).trans hB2⟩
set_option maxRecDepth 100000 in
theorem zclone_nil (w : World) (n c : Nat) :
    Calls Try.prog 38 #[.slice none n c] w fun e w' => e = .returned (.slice none 0 0) ∧ w' = w := by
  have q29 : ∀ (w : World) (a : Option Addr) (n c n' c' : Nat), (binOp .eql 23 (.slice a n c) (.slice none n' c')).run Try.prog w = .ok (.bool a.isNone) w := fun w a n c n' c' => Lib.run_eql_slice_nil w _ _ a n c n' c' Try.underlying23
  go_enter Try.func38, Try.ntmps38
  go_wp2_with fail
  go_ret
  exact ⟨rfl, rfl⟩
theorem zclone_any {w : World} {a : Option Addr} {n c : Nat} {l : List Int} (h : Zr w a n l) (hn : n ≤ 17592186044416) (hz : a = none → n = 0) :
    Calls Try.prog 38 #[.slice a n c] w fun e w' => ∃ v, e = .returned v ∧ w'.ownsRow w.heap.size 3 1 v l.length (zcells l) ∧ Below w.heap.size w w' := by
  cases a with
  | some ad => exact zclone_some h hn
  | none =>
    have h0 := hz rfl
    subst h0
    have hl := List.length_eq_zero_iff.1 h.1
    subst hl
    refine (zclone_nil w 0 c).mono ?_
    rintro e w' ⟨rfl, rfl⟩
    exact ⟨_, rfl, World.ownsRow_nil _ _ _ _, Below.refl _ _⟩
end Go.Proofs.Ytphaaolnmbadcaa
namespace Go.Proofs.Ytphaaolnmbadcaa
open Go.ChangeShapes Go.WideShapes Go.ChangeAt Go.RowKit
set_option linter.unusedVariables false

namespace Route
/-- the first j of a row cut -/
def mix (bs l : List Int) (j : Nat) : List Int := (cutRow bs l).take j ++ l.drop j
theorem mix_zero (bs l : List Int) : mix bs l 0 = l := by simp [mix]
theorem mix_len (bs l : List Int) (j : Nat) : (mix bs l j).length = l.length := by
  unfold mix
  rw [List.length_append, List.length_take, List.length_drop, cutRow_len]
  omega
theorem mix_all (bs l : List Int) : mix bs l l.length = cutRow bs l := by
  unfold mix
  rw [List.take_of_length_le (by rw [cutRow_len]; omega), List.drop_length, List.append_nil]
theorem mix_at {bs l : List Int} {j : Nat} (h : j < l.length) : (mix bs l j).getD j 0 = l.getD j 0 := by
  unfold mix
  have h1 : ((cutRow bs l).take j).length = j := by rw [List.length_take, cutRow_len]; omega
  rw [List.getD_eq_getElem?_getD, List.getElem?_append_right (by omega), h1, Nat.sub_self, List.getElem?_drop, Nat.add_zero, List.getD_eq_getElem?_getD]
theorem mix_next {bs l : List Int} {j : Nat} (h : j < l.length) : (mix bs l j).set j (cutTo bs (l.getD j 0)) = mix bs l (j + 1) := by
  unfold mix
  have h1 : ((cutRow bs l).take j).length = j := by rw [List.length_take, cutRow_len]; omega
  have h2 : j < (cutRow bs l).length := by rw [cutRow_len]; exact h
  have h3 : l.drop j = l[j] :: l.drop (j + 1) := List.drop_eq_getElem_cons h
  rw [List.take_succ_eq_append_getElem h2, h3, List.set_append_right _ _ (by omega), h1, Nat.sub_self, List.set_cons_zero, List.append_assoc, List.singleton_append]
  congr 2
  have e := cutRow_at (l := bs) h
  rw [List.getD_eq_getElem?_getD, List.getElem?_eq_getElem h2, Option.getD_some] at e
  exact e.symm
theorem mix_yes {bs l : List Int} {j : Nat} (h : j < l.length) (hc : bs.contains (l.getD j 0) = true) : mix bs l (j + 1) = mix bs l j := by
  rw [← mix_next h]
  unfold cutTo
  rw [if_pos hc, ← mix_at (bs := bs) h, List.getD_eq_getElem?_getD, List.getElem?_eq_getElem (by rw [mix_len]; exact h), Option.getD_some, List.set_getElem_self]
theorem mix_no {bs l : List Int} {j : Nat} (h : j < l.length) (hc : bs.contains (l.getD j 0) = false) : (mix bs l j).set j (-1) = mix bs l (j + 1) := by
  rw [← mix_next h]
  unfold cutTo
  rw [if_neg (by rw [hc]; decide)]
end Route
theorem row_own2 {w : World} {N R m c : Nat} {l : List Int} (hO : w.ownsRow N 3 1 (.slice (some ⟨R, 0, none⟩) m c) m (zcells l)) (hl : l.length = m) {G base : Nat} (hG : G ≠ R) (hb : base ≤ N) : RowA w base (some G) (.slice (some ⟨R, 0, none⟩) m c) l := by
  subst hl
  obtain ⟨a, cap, e, hz, h1, h2, h3, h4⟩ := zr_of_owns hO
  simp only [Value.slice.injEq, true_and] at e
  obtain ⟨e1, e3⟩ := e
  subst e1 e3
  refine ⟨_, _, rfl, hz, h1, h2, h3, fun ad e => ?_⟩
  cases e
  exact ⟨Nat.le_trans hb (hO.lt R rfl).1, (hO.lt R rfl).2, fun e => hG (Option.some.inj e)⟩
/-- a box and a row of empty rows -/
theorem ways_start (w : World) (p : PV) (n : Nat) (hn : n ≤ 200) (X : World) (hX : (w.alloc p.obj).alloc (.cells (madeCells #[.slice none 0 0] n) 23) = X) : Bxd X w.heap.size p ∧ Below w.heap.size w X ∧ X.ownsRow (w.heap.size + 1) 23 1 (.slice (some ⟨w.heap.size + 1, 0, none⟩) n n) n (madeCells #[.slice none 0 0] n).toList ∧ X.heap.size = w.heap.size + 1 + 1 := by
  subst hX
  have h1 := made_rows (w.alloc p.obj) n hn
  have e1 : (w.alloc p.obj).heap.size = w.heap.size + 1 := by simp
  rw [e1] at h1
  exact ⟨(bxd_new w p).below (fresh _ _), later (fresh _ _) (fresh _ _), h1, by simp⟩
theorem Bxd.sans {F : Nat → Prop} {w w' : World} {b : Nat} {p : PV} (h : Bxd w b p) (k : Sans F w w') (hb : ¬ F b) : Bxd w' b p := by
  obtain ⟨c0, c1, c2, c3, c4, c5, c6, c7, c8, c9, c10⟩ := h
  have hl : b < w.heap.size := cell_lt c0
  exact ⟨(k.cell (p := ⟨b, 0, none⟩) hl hb).trans c0, (k.cell (p := ⟨b, 1, none⟩) hl hb).trans c1, (k.cell (p := ⟨b, 2, none⟩) hl hb).trans c2, (k.cell (p := ⟨b, 3, none⟩) hl hb).trans c3, (k.cell (p := ⟨b, 4, none⟩) hl hb).trans c4, (k.cell (p := ⟨b, 5, none⟩) hl hb).trans c5, (k.cell (p := ⟨b, 6, none⟩) hl hb).trans c6, (k.cell (p := ⟨b, 7, none⟩) hl hb).trans c7, (k.cell (p := ⟨b, 8, none⟩) hl hb).trans c8, (k.cell (p := ⟨b, 9, none⟩) hl hb).trans c9, (k.cell (p := ⟨b, 10, none⟩) hl hb).trans c10⟩
set_option maxHeartbeats 4000000 in
set_option maxRecDepth 100000 in
theorem ways_any {w : World} {p : PV} {es : List (Int × Int)} {ws : List Int} {rs : List (List Int)} {n : Nat} (h : PlN w p es ws rs) (hm : MayN p es rs n) :
    Calls Try.prog 23 #[p.val] w fun e w' => ∃ a c, e = .returned (.slice a n c) ∧ CutAt w' a es rs n ∧ Below w.heap.size w w' := by
  have HP : Hid (PlN w p es ws rs) := h
  have HM : Hid (MayN p es rs n) := hm
  have hn6 := hm.two
  have HSt : Hid _ := ways_start w p n (by omega)
  have hN := hm.nodes
  have hmk := run_make_row' (P := Try.prog) 25 23 (.slice none 0 0) 24 Try.underlying25 infoRR rfl .i64 .i64 n (by omega) (by omega)
  clear h hm
  obtain ⟨N0, lanes, room, queue, rounds, every, bag, start, ea, en, ec, wa, wn, wc, na, nn, nc⟩ := p
  simp only at hN
  subst hN
  obtain rfl : n = nn := by have h1 := HP.out.mr.1; have h2 := HM.out.rows; simp only at h1; omega
  simp only [PV.val, PV.obj] at HSt ⊢
  go_enter Try.func23, Try.ntmps23
  go_upto_region 2 with fail
  obtain ⟨hX, hB, hO, hsz⟩ := HSt.out _ rfl
  have HX : Hid _ := hX
  have HB : Hid _ := hB
  have HO : Hid _ := hO
  have HSz : Hid _ := hsz
  clear HSt hX hB hO hsz hmk
  generalize World.alloc _ _ = X at HX HB HO HSz ⊢
  obtain ⟨B, hBe⟩ : ∃ g, w.heap.size = g := ⟨_, rfl⟩
  have HBe : Hid (w.heap.size = B) := hBe
  rw [hBe] at HX HB HO HSz ⊢
  obtain ⟨G, hG⟩ : ∃ g, B + 1 = g := ⟨_, rfl⟩
  have HGe : Hid (B + 1 = G) := hG
  rw [hG] at HO HSz ⊢
  clear hBe hG
  go_wp2_with fail
  go_loopw [13] (fun i wr => ∃ (t : Nat) (xs : List Value), t ≤ n ∧ i = .int .i64 t ∧ wr.ownsRow G 23 1 (.slice (some ⟨G, 0, none⟩) n n) n xs ∧ (∀ i, i < t → RowA wr G (some G) (xs.getD i undef) ((Route.cut es rs).getD i [])) ∧ Sans (fun j => j = G) X wr) (fun i _ => n - (intOf i).toNat)
  case atStart => exact ⟨0, _, Nat.zero_le _, rfl, HO.out, fun i hi => by omega, Sans.refl _ _⟩
  case round =>
    obtain ⟨t, xs, ht, rfl, hO, hR, hS⟩ := hrel
    obtain ⟨wt, hwt⟩ : ∃ wt, wt = wr := ⟨_, rfl⟩
    subst hwt
    have HOw : Hid (wt.ownsRow G 23 1 (.slice (some ⟨G, 0, none⟩) n n) n xs) := hO
    have HR : Hid (∀ i, i < t → RowA wt G (some G) (xs.getD i undef) ((Route.cut es rs).getD i [])) := hR
    have HS : Hid (Sans (fun j => j = G) X wt) := hS
    have hxl := hO.1
    have hGlt := (hO.lt G rfl).2
    by_cases htn : t < n
    · have htI : (t : Int) < (n : Int) := by omega
      have hGB : B ≠ G := by have := HGe.out; omega
      have HBw : Hid (Below w.heap.size w wt) := by
        have hb := HB.out
        rw [← HBe.out] at hb
        exact hb.trans (hS.below (B := w.heap.size) hb.size (fun j e => by have := HGe.out; have := HBe.out; omega))
      have HXt : Hid (Bxd wt B _) := HX.out.sans hS hGB
      obtain ⟨nb, no, ra, rc, ena, ct, hzr, hlr, hrm, hrn⟩ := (HP.out.below HBw.out).mr.at (k := t) htn
      simp only at ena
      subst ena
      obtain ⟨l, hl⟩ : ∃ l, rs.getD t [] = l := ⟨_, rfl⟩
      have hln : l.length = n := by rw [← hl]; exact HM.out.row t htn
      rw [hl, hln] at ct hzr hlr
      have HLe : Hid (rs.getD t [] = l) := hl
      have HLn : Hid (l.length = n) := hln
      have HCl : Hid _ := zclone_any (c := rc) hzr (by omega) (fun e => by have := hrn e; omega)
      have h0 := hO.cellAt t (by omega)
      rw [List.getElem?_eq_getElem (by omega)] at h0
      obtain ⟨z0, hz0⟩ : ∃ z, xs[t] = z := ⟨_, rfl⟩
      rw [hz0] at h0
      have f0 := hO.frozenAt t
      have HZ0 : Hid (wt.cell? ⟨G, t, none⟩ = some z0 ∧ wt.frozen? ⟨G, t, none⟩ = false) := ⟨h0, f0⟩
      obtain ⟨x0, x1, x2, x3, x4, x5, x6, x7, x8, x9, x10⟩ := HXt.out
      simp only at x0 x1 x2 x3 x4 x5 x6 x7 x8 x9 x10
      clear hl hln hzr hlr hrm hrn hz0 h0 f0 hO hR hS
      go_wp2_with fail
      refine Calls.mono HCl.out ?_
      rintro e w1 ⟨v1, rfl, hO1, hB1⟩
      obtain ⟨a1, c1, rfl, hz1, _, _, _, ⟨_, hnil⟩ | ⟨R, rfl, hR1, hR2⟩⟩ := zr_of_owns hO1
      · exfalso
        have := HLn.out
        rw [hnil] at this
        simp at this
        omega
      rw [HLn.out] at hO1 ⊢
      have HO1 : Hid (w1.ownsRow wt.heap.size 3 1 (.slice (some ⟨R, 0, none⟩) n c1) n (zcells l)) := hO1
      have hGR : G ≠ R := by omega
      have k0 := (hB1.cell (p := ⟨G, t, none⟩) hGlt).trans HZ0.out.1
      have k1 := (hB1.frozen (p := ⟨G, t, none⟩) hGlt).trans HZ0.out.2
      have HOw1 : Hid (w1.ownsRow G 23 1 (.slice (some ⟨G, 0, none⟩) n n) n xs) := owns_below HOw.out hB1
      have HS1 : Hid (Sans (fun j => j = G) X w1) := HS.out.then (Sans.of_below hB1)
      have HSt1 : Hid (Sans (fun j => j = G) wt w1) := Sans.of_below hB1
      have HRs : Hid (wt.heap.size ≤ R ∧ R < w1.heap.size ∧ G ≠ R) := ⟨hR1, hR2, hGR⟩
      clear x0 x1 x2 x3 x4 x5 x6 x7 x8 x9 x10 ct hz1 hO1 hR1 hR2 hB1 HCl HXt
      go_upto_region 6 with fail
      have HS2 : Hid (Sans (fun j => j = G) X (w1.setCell ⟨G, t, none⟩ (.slice (some ⟨R, 0, none⟩) n c1))) := HS1.out.then (Sans.of_set _ _ _ rfl)
      have HSt2 : Hid (Sans (fun j => j = G) wt (w1.setCell ⟨G, t, none⟩ (.slice (some ⟨R, 0, none⟩) n c1))) := HSt1.out.then (Sans.of_set _ _ _ rfl)
      have HOw2 : Hid ((w1.setCell ⟨G, t, none⟩ (.slice (some ⟨R, 0, none⟩) n c1)).ownsRow G 23 1 (.slice (some ⟨G, 0, none⟩) n n) n (xs.set t (.slice (some ⟨R, 0, none⟩) n c1))) := (HOw1.out.stored t _).1
      have HO2 : Hid ((w1.setCell ⟨G, t, none⟩ (.slice (some ⟨R, 0, none⟩) n c1)).ownsRow wt.heap.size 3 1 (.slice (some ⟨R, 0, none⟩) n c1) n (zcells l)) := owns_s1 HO1.out (Sans.of_set (F := fun j => j = G) _ _ _ rfl) (fun j e => by simp only [Value.ownBlock, Option.some.injEq] at e; omega)
      have HR2 : Hid (R < (w1.setCell ⟨G, t, none⟩ (.slice (some ⟨R, 0, none⟩) n c1)).heap.size) := by show R < _; rw [World.size_setCell]; exact HRs.out.2.1
      clear k0 k1 HS1 HSt1 HOw1 HO1
      generalize World.setCell _ _ _ = w2 at HS2 HSt2 HOw2 HO2 HR2 ⊢
      have HX2 := HX.out.sans HS2.out hGB
      have HB2 : Hid (Below w.heap.size w w2) := by
        have hb := HB.out
        rw [← HBe.out] at hb
        exact hb.trans (HS2.out.below (B := w.heap.size) hb.size (fun j e => by have := HGe.out; have := HBe.out; omega))
      obtain ⟨x0, x1, x2, x3, x4, x5, x6, x7, x8, x9, x10⟩ := HX2
      simp only at x0 x1 x2 x3 x4 x5 x6 x7 x8 x9 x10
      have HBe2 : Hid _ := beside_raw (HP.out.below HB2.out).pl (t : Int)
      go_wp2_with fail
      refine Calls.mono HBe2.out ?_
      rintro e w3 ⟨u, rfl, hO3, hB3⟩
      obtain ⟨a3, c3, rfl, hz3, _, _, _, hg3⟩ := zr_of_owns hO3
      have hbl := Plan.bes_len es (t : Int)
      have hen := (HP.out.below HB2.out).pl.he.1
      have heb := (HP.out.below HB2.out).pl.eb
      simp only at hen heb
      obtain ⟨bs, hbs⟩ : ∃ bs, Plan.bes es (t : Int) = bs := ⟨_, rfl⟩
      rw [hbs] at hz3 hg3 hbl ⊢
      have HBs : Hid (Plan.bes es (t : Int) = bs) := hbs
      obtain ⟨bl, hbl2⟩ : ∃ bl, bs.length = bl := ⟨_, rfl⟩
      rw [hbl2] at hz3 hbl ⊢
      have hbl3 : bl ≤ 17592186044416 := by omega
      have HZ3 : Hid (Zr w3 a3 bl bs) := hz3
      have HG3 : Hid (∀ ad, a3 = some ad → ¬ ad.block = R) := fun ad e e2 => by
        rcases hg3 with ⟨h, _⟩ | ⟨g, h, h1, _⟩
        · rw [h] at e; cases e
        · rw [h] at e
          cases e
          have := HR2.out
          simp only at e2
          omega
      have HS3 : Hid (Sans (fun j => j = G) X w3) := HS2.out.then (Sans.of_below hB3)
      have HSt3 : Hid (Sans (fun j => j = G) wt w3) := HSt2.out.then (Sans.of_below hB3)
      have HOw3 : Hid (w3.ownsRow G 23 1 (.slice (some ⟨G, 0, none⟩) n n) n (xs.set t (.slice (some ⟨R, 0, none⟩) n c1))) := owns_below HOw2.out hB3
      have HO3 : Hid (w3.ownsRow wt.heap.size 3 1 (.slice (some ⟨R, 0, none⟩) n c1) n (zcells l)) := owns_below HO2.out hB3
      clear x0 x1 x2 x3 x4 x5 x6 x7 x8 x9 x10 hO3 hB3 hz3 hg3 hbs hbl2 hbl hen heb HBe2 HS2 HSt2 HOw2 HO2
      have c1t := HOw3.out.cellAt t (by omega)
      rw [List.getElem?_set_self (by omega)] at c1t
      have HC1 : Hid (w3.cell? ⟨G, t, none⟩ = some (.slice (some ⟨R, 0, none⟩) n c1)) := c1t
      go_wp2_with fail
      clear c1t
      go_loopw [33] (fun i wi => ∃ j : Nat, j ≤ n ∧ i = .int .i64 j ∧ Sans (fun k => k = R) w3 wi ∧ wi.ownsRow wt.heap.size 3 1 (.slice (some ⟨R, 0, none⟩) n c1) n (zcells (Route.mix bs l j))) (fun i _ => n - (intOf i).toNat)
      case atStart => exact ⟨0, Nat.zero_le _, rfl, Sans.refl _ _, by rw [Route.mix_zero]; exact HO3.out⟩
      case round =>
        obtain ⟨j, hj, rfl, hSj, hOj⟩ := hrel
        have HSj : Hid (Sans (fun k => k = R) w3 wr) := hSj
        have HOj : Hid (wr.ownsRow wt.heap.size 3 1 (.slice (some ⟨R, 0, none⟩) n c1) n (zcells (Route.mix bs l j))) := hOj
        have hml : (Route.mix bs l j).length = n := by rw [Route.mix_len]; exact HLn.out
        have hG3 : G < w3.heap.size := (HOw3.out.lt G rfl).2
        have cGt : wr.cell? ⟨G, t, none⟩ = some (.slice (some ⟨R, 0, none⟩) n c1) := (hSj.cell (p := ⟨G, t, none⟩) hG3 (by show ¬ G = R; exact HRs.out.2.2)).trans HC1.out
        by_cases hjn : j < n
        · have hjI : (j : Int) < (n : Int) := by omega
          have cR := hOj.cellAt j (by omega)
          rw [zcells_at (by omega)] at cR
          have hmx := Route.mix_at (bs := bs) (l := l) (j := j) (by have := HLn.out; omega)
          obtain ⟨y, hy⟩ : ∃ y, l.getD j 0 = y := ⟨_, rfl⟩
          rw [hmx, hy] at cR
          have HY : Hid (l.getD j 0 = y) := hy
          have fR := hOj.frozenAt j
          obtain ⟨b, hb⟩ : ∃ b, bs.contains y = b := ⟨_, rfl⟩
          have HBc : Hid (bs.contains y = b) := hb
          have HCo : Hid _ := zcontains_any (c := c3) (HZ3.out.sans hSj HG3.out) hbl3 y hb
          clear hy hb hmx hml hSj hOj hG3
          cases b with
          | true =>
            have HMx : Hid (Route.mix bs l (j + 1) = Route.mix bs l j) := Route.mix_yes (by have := HLn.out; omega) (by rw [HY.out]; exact HBc.out)
            go_wp2_with (go_at_call 40; refine Calls.mono HCo.out ?_; rintro e w' ⟨rfl, hq⟩; obtain rfl := hq.symm; clear hq)
            go_roundw
            case rel =>
              have R1 := HOj.out
              rw [← HMx.out] at R1
              first | exact ⟨j + 1, by omega, by go_num, HSj.out, R1⟩ | ((repeat apply Exists.intro); exact ⟨⟨j + 1, by omega, by go_num, HSj.out, R1⟩, rfl⟩)
            case measure => simp [intOf]; omega
          | false =>
            have HMx : Hid ((Route.mix bs l j).set j (-1) = Route.mix bs l (j + 1)) := Route.mix_no (by have := HLn.out; omega) (by rw [HY.out]; exact HBc.out)
            go_wp2_with (go_at_call 40; refine Calls.mono HCo.out ?_; rintro e w' ⟨rfl, hq⟩; obtain rfl := hq.symm; clear hq)
            have HR1 : Hid ((wr.setCell ⟨R, j, none⟩ (.int .i64 (-1))).ownsRow wt.heap.size 3 1 (.slice (some ⟨R, 0, none⟩) n c1) n (zcells (Route.mix bs l (j + 1)))) := by
              have h := (HOj.out.stored j (.int .i64 (-1))).1
              rw [zcells_set1, HMx.out] at h
              exact h
            have HR0 : Hid (Sans (fun k => k = R) w3 (wr.setCell ⟨R, j, none⟩ (.int .i64 (-1)))) := HSj.out.then (Sans.of_set _ _ _ rfl)
            go_roundw
            case rel => first | exact ⟨j + 1, by omega, by go_num, HR0.out, HR1.out⟩ | ((repeat apply Exists.intro); exact ⟨⟨j + 1, by omega, by go_num, HR0.out, HR1.out⟩, rfl⟩)
            case measure => simp [intOf]; omega
        · obtain rfl : j = n := by omega
          have HRow : Hid (RowA wr G (some G) (.slice (some ⟨R, 0, none⟩) j c1) ((Route.cut es rs).getD t [])) := by
            rw [Route.cut_at (by have := HM.out.rows; omega), HLe.out, HBs.out, ← Route.mix_all, HLn.out]
            exact row_own2 hOj hml HRs.out.2.2 (by omega)
          have HSw : Hid (Sans (fun k => k = G ∨ k = R) wt wr) := (HSt3.out.mono (fun _ e => .inl e)).then (HSj.out.mono (fun _ e => .inr e))
          have HOf : Hid (wr.ownsRow G 23 1 (.slice (some ⟨G, 0, none⟩) j j) j (xs.set t (.slice (some ⟨R, 0, none⟩) j c1))) := owns_s1 HOw3.out hSj (fun i e => by simp only [Value.ownBlock, Option.some.injEq] at e; have := HRs.out.2.2; omega)
          have HRf : Hid (∀ i, i < t + 1 → RowA wr G (some G) ((xs.set t (.slice (some ⟨R, 0, none⟩) j c1)).getD i undef) ((Route.cut es rs).getD i [])) := fun i hi => by
            by_cases e : i = t
            · subst e
              rw [getD_set_eq (by omega)]
              exact HRow.out
            · rw [getD_set_ne (by omega)]
              exact (HR.out i (by omega)).keep HSw.out (fun q h1 h2 h3 => by
                have h4 : q ≠ G := fun e => h3 (by rw [e])
                have := HRs.out.1
                omega)
          have HSX : Hid (Sans (fun k => k = G) X wr) := by
            have h := HS3.out
            have hRX : X.heap.size ≤ R := Nat.le_trans HS.out.size HRs.out.1
            exact h.trans HSj.out (fun k e => .inr (by omega))
          clear hSj hOj hml hG3 cGt
          go_wp2_with fail
          go_roundw
          case rel => first | exact ⟨t + 1, _, by omega, by go_num, HOf.out, HRf.out, HSX.out⟩ | ((repeat apply Exists.intro); exact ⟨⟨by omega, by go_num, HOf.out, HRf.out, HSX.out⟩, rfl⟩)
          case measure => simp [intOf]; omega
    · obtain rfl : t = n := by omega
      have HC : Hid (∃ a c, Ending.returned (Value.slice (some ⟨G, 0, none⟩) t t) = .returned (.slice a t c) ∧ CutAt wt a es rs t ∧ Below w.heap.size w wt) := by
        have hl : (Route.cut es rs).length = t := by rw [Route.cut_len]; exact HM.out.rows
        obtain ⟨a, cap, e, hmr, _⟩ := mr_of_rb (w := wt) (base := G) (v := .slice (some ⟨G, 0, none⟩) t t) (k := t) (rs := Route.cut es rs) (vs := xs) ⟨HOw.out, by omega, hl, HR.out⟩
        simp only [Value.slice.injEq, true_and] at e
        obtain ⟨rfl, rfl⟩ := e
        refine ⟨_, _, rfl, ⟨hmr, HM.out.two, HM.out.rows, HM.out.row, fun h => HM.out.in_bes h⟩, ?_⟩
        have hb := HB.out
        rw [HBe.out]
        exact hb.trans (HS.out.below (B := B) (by rw [← HBe.out]; rw [← HBe.out] at hb; exact hb.size) (fun j e => by have := HGe.out; omega))
      clear hO hR hS hGlt
      go_wp2_with fail
      go_ret
      exact HC.out
end Go.Proofs.Ytphaaolnmbadcaa
namespace Go.Proofs.Ytphaaolnmbadcaa
open Go.ChangeShapes Go.WideShapes Go.ChangeAt Go.RowKit
set_option linter.unusedVariables false

/-- the search's memory: its three variables, its marks; all else as it was -/
structure Sea (w0 : World) (bm bw bf g n : Nat) (a : Option Addr) (c : Nat) (M : List Int) (w : World) : Prop where
  bel : Below w0.heap.size w0 w
  cm : w.cell? ⟨bm, 0, none⟩ = some (.slice (some ⟨g, 0, none⟩) n n)
  cw : w.cell? ⟨bw, 0, none⟩ = some (.slice a n c)
  cf : w.cell? ⟨bf, 0, none⟩ = some (.func (Fn.func 41) #[] #[.pointer (some ⟨bm, 0, none⟩), .pointer (some ⟨bw, 0, none⟩), .pointer (some ⟨bf, 0, none⟩)])
  own : w.ownsRow g 3 1 (.slice (some ⟨g, 0, none⟩) n n) n (zcells M)
structure Apart (w0 : World) (bm bw bf g : Nat) : Prop where
  hi : w0.heap.size ≤ g
  m : bm ≠ g
  w : bw ≠ g
  f : bf ≠ g
theorem Sea.below {w0 : World} {bm bw bf g n : Nat} {a : Option Addr} {c : Nat} {M : List Int} {w w' : World} (h : Sea w0 bm bw bf g n a c M w) (k : Below w.heap.size w w') : Sea w0 bm bw bf g n a c M w' :=
  ⟨later h.bel k, (k.cell (p := ⟨bm, 0, none⟩) (cell_lt h.cm)).trans h.cm, (k.cell (p := ⟨bw, 0, none⟩) (cell_lt h.cw)).trans h.cw, (k.cell (p := ⟨bf, 0, none⟩) (cell_lt h.cf)).trans h.cf, owns_below h.own k⟩
theorem Sea.store {w0 : World} {bm bw bf g n : Nat} {a : Option Addr} {c : Nat} {M : List Int} {w : World} (h : Sea w0 bm bw bf g n a c M w) (A : Apart w0 bm bw bf g) (k : Nat) (z : Int) : Sea w0 bm bw bf g n a c (M.set k z) (w.setCell ⟨g, k, none⟩ (.int .i64 z)) := by
  have s : Sans (fun j => j = g) w (w.setCell ⟨g, k, none⟩ (.int .i64 z)) := Sans.of_set _ _ _ rfl
  refine ⟨h.bel.trans (s.below (B := w0.heap.size) h.bel.size (fun j e => by have := A.hi; omega)), (s.cell (p := ⟨bm, 0, none⟩) (cell_lt h.cm) A.m).trans h.cm, (s.cell (p := ⟨bw, 0, none⟩) (cell_lt h.cw) A.w).trans h.cw, (s.cell (p := ⟨bf, 0, none⟩) (cell_lt h.cf) A.f).trans h.cf, ?_⟩
  have := (h.own.stored k (.int .i64 z)).1
  rw [zcells_set] at this
  exact this
/-- what a search from one place comes to -/
def Met (W : List (List Int)) (g : Nat) (S : List Int → World → Prop) (M : List Int) (p : Nat) (w : World) (e : Ending) (w' : World) : Prop :=
  ∃ b : Bool, e = .returned (.bool b) ∧ (b = true → ∃ i, Route.Plus W i i) ∧ (b = false → ∃ M', Route.Step W M M' ∧ M'.getD p 0 = 2 ∧ S M' w') ∧ Sans (fun j => j = g) w w'
/-- .. from all of a row, one behind the other -/
def MetAll (W : List (List Int)) (g : Nat) (S : List Int → World → Prop) (M l : List Int) (w w' : World) (no : Bool) : Prop :=
  (no = false → ∃ i, Route.Plus W i i) ∧ (no = true → ∃ M', Route.Step W M M' ∧ (∀ j, j < l.length → M'.getD (l.getD j 0).toNat 0 = 2) ∧ S M' w') ∧ Sans (fun j => j = g) w w'
/-- what is known of searches that have fewer places ahead of them -/
def Searches (w0 : World) (bm bw bf g n : Nat) (a : Option Addr) (c : Nat) (W : List (List Int)) (u : Nat) : Prop :=
  ∀ (w : World) (M : List Int) (p : Nat), Sea w0 bm bw bf g n a c M w → Route.Dfs W M → p < n → (∀ i, M.getD i 0 = 1 → Route.Plus W i p) → Route.zs M ≤ u →
    Calls Try.prog 41 #[.int .i64 (p : Nat), .pointer (some ⟨bm, 0, none⟩), .pointer (some ⟨bw, 0, none⟩), .pointer (some ⟨bf, 0, none⟩)] w fun e w' => Met W g (Sea w0 bm bw bf g n a c) M p w e w'
set_option maxHeartbeats 4000000 in
set_option maxRecDepth 100000 in
theorem sidx_any {w0 : World} {bm bw bf g n : Nat} {a : Option Addr} {c : Nat} {W : List (List Int)} {u : Nat} (ih : Searches w0 bm bw bf g n a c W u) (hl : W.length = n) (hF : Route.Fit W)
    {p : Nat} (hp : p < n) {M : List Int} (hD : Route.Dfs W M) (hz : Route.zs M ≤ u) (hop : ∀ i, M.getD i 0 = 1 → Route.Plus W i p ∨ i = p) {w : World} (hs : Sea w0 bm bw bf g n a c M w) {ra : Option Addr} {rl rc : Nat} {l : List Int} (hl2 : W.getD p [] = l) (hr : Zr w0 ra rl l) (hn : rl ≤ 9223372036854775807) :
    Calls Try.prog 60 #[.slice ra rl rc, .func (Fn.func 41) #[] #[.pointer (some ⟨bm, 0, none⟩), .pointer (some ⟨bw, 0, none⟩), .pointer (some ⟨bf, 0, none⟩)]] w fun e w' => ∃ z : Int, e = .returned (.int .i64 z) ∧ MetAll W g (Sea w0 bm bw bf g n a c) M l w w' (decide (z < 0)) := by
  have IH : Hid (Searches w0 bm bw bf g n a c W u) := ih
  have HZ : Hid (Zr w0 ra rl l) := hr
  have HL : Hid (l.length = rl) := hr.1
  have HS : Hid (Sea w0 bm bw bf g n a c M w) := hs
  have HD : Hid (Route.Dfs W M) := hD
  have HO : Hid (∀ i, M.getD i 0 = 1 → Route.Plus W i p ∨ i = p) := hop
  have HE : Hid (∀ y ∈ l, 0 ≤ y ∧ y < (n : Int) ∧ Route.Edge W p y.toNat) := fun y hy => by
    have h1 := hF p (by rw [hl]; exact hp) y (by rw [hl2]; exact hy)
    rw [hl] at h1
    exact ⟨h1.1, h1.2, by rw [hl]; exact hp, by rw [hl2, Int.toNat_of_nonneg h1.1]; exact hy⟩
  have HU : Hid (Route.zs M ≤ u) := hz
  clear ih hr hs hD hop hF hl hl2 hz
  go_enter Try.func60, Try.ntmps60
  go_wp2_with fail
  go_loopw [5, 8] (fun _ i wr => ∃ k : Nat, k ≤ rl ∧ i = .int .i64 k ∧ ∃ M', Route.Step W M M' ∧ (∀ j, j < k → M'.getD (l.getD j 0).toNat 0 = 2) ∧ Sea w0 bm bw bf g n a c M' wr ∧ Sans (fun j => j = g) w wr) (fun _ i _ => rl - (intOf i).toNat)
  case atStart => exact ⟨0, Nat.zero_le _, rfl, M, Route.Step.refl HD.out, fun j hj => by omega, HS.out, Sans.refl _ _⟩
  case round =>
    obtain ⟨k, hk, rfl, M2, hSt, hno, hSe, hSa⟩ := hrel
    have HSt : Hid (Route.Step W M M2) := hSt
    have HN : Hid (∀ j, j < k → M2.getD (l.getD j 0).toNat 0 = 2) := hno
    have HSe : Hid (Sea w0 bm bw bf g n a c M2 wr) := hSe
    have HSa : Hid (Sans (fun j => j = g) w wr) := hSa
    clear hSt hno hSe hSa
    by_cases hkn : k < rl
    · obtain ⟨b, off, ha, hc⟩ := (HZ.out.below HSe.out.bel).at hkn
      subst ha
      have hy : 0 ≤ l.getD k 0 ∧ l.getD k 0 < (n : Int) ∧ Route.Edge W p (l.getD k 0).toNat := by
        refine HE.out _ ?_
        rw [List.getD_eq_getElem?_getD, List.getElem?_eq_getElem (show k < l.length by have := HL.out; omega)]
        exact List.getElem_mem _
      obtain ⟨y, hyq⟩ := Int.eq_ofNat_of_zero_le hy.1
      have HY : Hid (l.getD k 0 = (y : Int)) := hyq
      rw [hyq] at hc hy
      rw [Int.toNat_natCast] at hy
      clear hyq
      have HEd : Hid (Route.Edge W p y) := hy.2.2
      have HOp : Hid (∀ i, M2.getD i 0 = 1 → Route.Plus W i y) := fun i hi => by
        rcases HO.out i ((HSt.out.opn i).1 hi) with h | h
        · exact h.step HEd.out
        · rw [h]; exact Route.Plus.one HEd.out
      have HCall : Hid _ := IH.out wr M2 y HSe.out HSt.out.dfs (by omega) HOp.out (Nat.le_trans HSt.out.zeros HU.out)
      clear hy
      go_wp2_with (go_at_call 41; refine Calls.mono HCall.out ?_; rintro e w3 ⟨b, rfl, ht, hf, hs3⟩; have HT : Hid _ := ht; have HF : Hid _ := hf; have HS3 : Hid (Sans (fun j => j = g) w w3) := HSa.out.then hs3; clear ht hf hs3; cases b)
      · obtain ⟨M3, h3, h4, h5⟩ := HF.out (by trivial)
        have HR : Hid (Route.Step W M M3) := HSt.out.trans h3
        have HN3 : Hid (∀ j, j < k + 1 → M3.getD (l.getD j 0).toNat 0 = 2) := fun j hj => by
          by_cases e : j = k
          · subst e
            rw [HY.out, Int.toNat_natCast]
            exact h4
          · exact h3.shut _ (HN.out j (by omega))
        have HSe3 : Hid (Sea w0 bm bw bf g n a c M3 w3) := h5
        clear h3 h4 h5 HF HT
        go_wp2_with fail
        go_roundw
        case rel => first | exact ⟨k + 1, by omega, by go_num, M3, HR.out, HN3.out, HSe3.out, HS3.out⟩ | ((repeat apply Exists.intro); exact ⟨⟨k + 1, by omega, by go_num, M3, HR.out, HN3.out, HSe3.out, HS3.out⟩, rfl⟩)
        case measure => simp [intOf]; omega
      · have HTx : Hid (∃ i, Route.Plus W i i) := HT.out (by trivial)
        clear HF HT
        go_wp2_with fail
        go_ret
        exact ⟨(k : Int), rfl, fun _ => HTx.out, fun e => (by have := of_decide_eq_true e; omega), HS3.out⟩
    · obtain rfl : k = rl := by omega
      go_wp2_with fail
      go_ret
      exact ⟨-1, rfl, fun e => (by cases e), fun _ => ⟨M2, HSt.out, fun j hj => HN.out j (by have := HL.out; omega), HSe.out⟩, HSa.out⟩
set_option maxRecDepth 100000 in
theorem scont_any {w0 : World} {bm bw bf g n : Nat} {a : Option Addr} {c : Nat} {W : List (List Int)} {u : Nat} (ih : Searches w0 bm bw bf g n a c W u) (hl : W.length = n) (hF : Route.Fit W)
    {p : Nat} (hp : p < n) {M : List Int} (hD : Route.Dfs W M) (hz : Route.zs M ≤ u) (hop : ∀ i, M.getD i 0 = 1 → Route.Plus W i p ∨ i = p) {w : World} (hs : Sea w0 bm bw bf g n a c M w) {ra : Option Addr} {rl rc : Nat} {l : List Int} (hl2 : W.getD p [] = l) (hr : Zr w0 ra rl l) (hn : rl ≤ 9223372036854775807) :
    Calls Try.prog 42 #[.slice ra rl rc, .func (Fn.func 41) #[] #[.pointer (some ⟨bm, 0, none⟩), .pointer (some ⟨bw, 0, none⟩), .pointer (some ⟨bf, 0, none⟩)]] w fun e w' => ∃ b : Bool, e = .returned (.bool b) ∧ MetAll W g (Sea w0 bm bw bf g n a c) M l w w' (!b) := by
  have HI : Hid _ := sidx_any (rc := rc) ih hl hF hp hD hz hop hs hl2 hr hn
  clear ih hl hF hD hz hop hs hl2 hr
  go_enter Try.func42, Try.ntmps42
  go_wp2_with (go_at_call 60; refine Calls.mono HI.out ?_; rintro e w' ⟨z, rfl, hm⟩; have HM : Hid _ := hm; clear hm)
  go_ret
  refine ⟨_, rfl, ?_⟩
  have h := HM.out
  have e : (!decide (0 ≤ z)) = decide (z < 0) := by
    by_cases hz : z < 0
    · simp [hz]
    · simp [hz]; omega
  rw [e]
  exact h
end Go.Proofs.Ytphaaolnmbadcaa
namespace Go.Proofs.Ytphaaolnmbadcaa
open Go.ChangeShapes Go.WideShapes Go.ChangeAt Go.RowKit
set_option linter.unusedVariables false

set_option maxHeartbeats 4000000 in
set_option maxRecDepth 100000 in
theorem meets_step {w0 : World} {bm bw bf g n : Nat} {a : Option Addr} {c : Nat} {W : List (List Int)} (A : Apart w0 bm bw bf g) (hM : Mr w0 a n W) (hF : Route.Fit W) (hn : n ≤ 36) {u : Nat} (ih : ∀ v, v < u → Searches w0 bm bw bf g n a c W v) : Searches w0 bm bw bf g n a c W u := by
  intro w M p hs hD hp hop hz
  have hl := hM.1
  have hMl : M.length = n := by rw [hD.len, hl]
  have HS : Hid (Sea w0 bm bw bf g n a c M w) := hs
  have HD : Hid (Route.Dfs W M) := hD
  have HO : Hid (∀ i, M.getD i 0 = 1 → Route.Plus W i p) := hop
  have HM : Hid (Mr w0 a n W) := hM
  have HFt : Hid (Route.Fit W) := hF
  have HA : Hid (Apart w0 bm bw bf g) := A
  have HI : Hid (∀ v, v < u → Searches w0 bm bw bf g n a c W v) := ih
  have HW : Hid (W.length = n) := hl
  have HML : Hid (M.length = n) := hMl
  have hpI : (p : Int) < (n : Int) := by omega
  have q0 := hs.cm
  have q1 := hs.own.cellAt p (by omega)
  rw [zcells_at (by omega)] at q1
  have q2 := hs.own.frozenAt p
  have q3 := hs.cw
  have q4 := hs.cf
  rcases hD.val p with e0 | e0 | e0
  · rw [e0] at q1
    have HZ : Hid (M.getD p 0 = 0) := e0
    have hzo := Route.zs_open hD (by omega : p < W.length) e0
    obtain ⟨v, hv⟩ : ∃ v, u = v + 1 := ⟨u - 1, by omega⟩
    have HV : Hid (Searches w0 bm bw bf g n a c W v) := HI.out v (by omega)
    have HZv : Hid (Route.zs (M.set p 1) ≤ v) := by show _ ≤ _; omega
    clear e0 hs hD hop hM hF A ih hl hMl hz hzo hv HI
    go_enter Try.func41, Try.ntmps41
    go_upto_region 4 with fail
    have HS1 : Hid (Sea w0 bm bw bf g n a c (M.set p 1) (w.setCell ⟨g, p, none⟩ (.int .i64 1))) := HS.out.store HA.out p 1
    have HSa : Hid (Sans (fun j => j = g) w (w.setCell ⟨g, p, none⟩ (.int .i64 1))) := Sans.of_set _ _ _ rfl
    clear q0 q1 q2 q3 q4 HS
    generalize w.setCell _ _ = w1 at HS1 HSa ⊢
    have q0 := HS1.out.cm
    have q3 := HS1.out.cw
    have q4 := HS1.out.cf
    obtain ⟨rb, ro, ra, rc, ea, cr, _⟩ := (HM.out.below HS1.out.bel).at (k := p) (by omega)
    obtain ⟨_, _, ra', rc', ea', cr', hz', hlr, hrm, _⟩ := HM.out.at (k := p) (by omega)
    have e2 := ea.symm.trans ea'
    subst ea
    simp only [Option.some.injEq, Addr.mk.injEq, and_true] at e2
    obtain ⟨rfl, rfl⟩ := e2
    have hcr := ((later HS1.out.bel (Below.refl _ _)).cell (p := ⟨rb, ro + p, none⟩) (cell_lt cr')).trans cr'
    rw [cr] at hcr
    simp only [Option.some.injEq, Value.slice.injEq, true_and] at hcr
    obtain ⟨rfl, rfl⟩ := hcr
    obtain ⟨l, hl⟩ : ∃ l, W.getD p [] = l := ⟨_, rfl⟩
    rw [hl] at cr hz' hlr
    obtain ⟨rl, hrl⟩ : ∃ rl, l.length = rl := ⟨_, rfl⟩
    rw [hrl] at cr hz' hlr
    have HLl : Hid (W.getD p [] = l) := hl
    have HRl : Hid (l.length = rl) := hrl
    have hrl36 : rl ≤ 9223372036854775807 := by unfold maxLen at hrm; omega
    have hop1 : ∀ i, (M.set p 1).getD i 0 = 1 → Route.Plus W i p ∨ i = p := fun i hi => by
      rw [Route.set_get (by have := HML.out; omega)] at hi
      by_cases e : i = p
      · exact .inr e
      · rw [if_neg e] at hi
        exact .inl (HO.out i hi)
    have HCall : Hid (∀ wx, Below w1.heap.size w1 wx → _) := fun wx hx => scont_any (rc := rc) HV.out HW.out HFt.out hp (HD.out.open1 (by have := HW.out; omega) HZ.out) HZv.out hop1 (HS1.out.below hx) HLl.out hz' hrl36
    clear cr' hz' hlr hrm hl hrl hrl36 hop1
    go_region_with (go_at_call 42; refine Calls.mono (HCall.out _ ((Below.refl _ _).drew)) ?_; rintro e w2 ⟨b, rfl, hm2⟩; have HM2 : Hid _ := hm2; clear hm2)
    all_goals (
      clear q0 q3 q4 cr HCall
      cases b
      · obtain ⟨M2, hst, hall, hs2⟩ := HM2.out.2.1 rfl
        have HC : Hid (Route.Step W M (M2.set p 2) ∧ (M2.set p 2).getD p 0 = 2) := Route.Step.close HD.out (by have := HW.out; omega) HZ.out hst (fun k hk => by
          obtain ⟨_, hk⟩ := hk
          rw [HLl.out] at hk
          obtain ⟨j, hj, e⟩ := List.getElem_of_mem hk
          have e3 : l.getD j 0 = (k : Int) := by rw [List.getD_eq_getElem?_getD, List.getElem?_eq_getElem hj, Option.getD_some, e]
          have := hall j hj
          rw [e3, Int.toNat_natCast] at this
          exact this)
        have HS2 : Hid _ := hs2
        have HSa2 : Hid (Sans (fun j => j = g) w w2) := HSa.out.then ((Sans.drew _).then HM2.out.2.2)
        have hl2 : M2.length = n := by rw [hst.dfs.len]; exact HW.out
        have q0 := hs2.cm
        have q1 := hs2.own.cellAt p (by omega)
        rw [zcells_at (by omega)] at q1
        obtain ⟨y, hy⟩ : ∃ y, M2.getD p 0 = y := ⟨_, rfl⟩
        rw [hy] at q1
        have q2 := hs2.own.frozenAt p
        clear hst hall hs2 hy HM2
        go_wp2_with fail
        go_ret
        exact ⟨false, rfl, fun e => (by cases e), fun _ => ⟨_, HC.out.1, HC.out.2, HS2.out.store HA.out p 2⟩, HSa2.out.then (Sans.of_set _ _ _ rfl)⟩
      · have HR : Hid (∃ i, Route.Plus W i i) := HM2.out.1 rfl
        have HSa2 : Hid (Sans (fun j => j = g) w w2) := HSa.out.then ((Sans.drew _).then HM2.out.2.2)
        clear HM2
        go_wp2_with fail
        go_ret
        exact ⟨true, rfl, fun _ => HR.out, fun e => (by cases e), HSa2.out⟩)
  · rw [e0] at q1
    have HR : Hid (∃ i, Route.Plus W i i) := ⟨p, HO.out p e0⟩
    clear e0 hs hD hop hM hF A ih hl hMl hz
    go_enter Try.func41, Try.ntmps41
    go_wp2_with fail
    go_ret
    exact ⟨true, rfl, fun _ => HR.out, fun e => (by cases e), Sans.refl _ _⟩
  · rw [e0] at q1
    have HR : Hid (M.getD p 0 = 2) := e0
    clear e0 hs hD hop hM hF A ih hl hMl hz
    go_enter Try.func41, Try.ntmps41
    go_wp2_with fail
    go_ret
    exact ⟨false, rfl, fun e => (by cases e), fun _ => ⟨M, Route.Step.refl HD.out, HR.out, HS.out⟩, Sans.refl _ _⟩
theorem searches_all {w0 : World} {bm bw bf g n : Nat} {a : Option Addr} {c : Nat} {W : List (List Int)} (A : Apart w0 bm bw bf g) (hM : Mr w0 a n W) (hF : Route.Fit W) (hn : n ≤ 36) (u : Nat) : Searches w0 bm bw bf g n a c W u := by
  induction u using Nat.strongRecOn with
  | ind u ih => exact meets_step A hM hF hn ih
end Go.Proofs.Ytphaaolnmbadcaa
namespace Go.Proofs.Ytphaaolnmbadcaa
open Go.ChangeShapes Go.WideShapes Go.ChangeAt Go.RowKit
set_option linter.unusedVariables false

/-- four new blocks: the rows' variable, the marks, their variable, the closure's -/
theorem round_boxes (w : World) (a : Option Addr) (n c : Nat) (hn : n ≤ 36) (X : World) (hX : (((w.alloc (.cells #[.slice a n c] 25)).alloc (.cells (madeCells #[.int .i64 0] n) 3)).alloc (.cells #[.slice (some ⟨w.heap.size + 1, 0, none⟩) n n] 23)).alloc (.cells #[.nilFunc] 64) = X) :
    Below w.heap.size w X ∧ X.cell? ⟨w.heap.size, 0, none⟩ = some (.slice a n c) ∧ X.ownsRow (w.heap.size + 1) 3 1 (.slice (some ⟨w.heap.size + 1, 0, none⟩) n n) n (zcells (List.replicate n 0)) ∧ X.cell? ⟨w.heap.size + 1 + 1, 0, none⟩ = some (.slice (some ⟨w.heap.size + 1, 0, none⟩) n n) ∧ X.cell? ⟨w.heap.size + 1 + 1 + 1, 0, none⟩ = some .nilFunc ∧ X.frozen? ⟨w.heap.size + 1 + 1 + 1, 0, none⟩ = false := by
  subst hX
  have s1 : (w.alloc (.cells #[.slice a n c] 25)).heap.size = w.heap.size + 1 := by simp
  have c1 : (w.alloc (.cells #[.slice a n c] 25)).cell? ⟨w.heap.size, 0, none⟩ = some (.slice a n c) := by simp
  have b1 := fresh w (.cells #[.slice a n c] 25)
  generalize w.alloc _ = w1 at s1 c1 b1 ⊢
  have o2 : (w1.alloc (.cells (madeCells #[.int .i64 0] n) 3)).ownsRow w1.heap.size 3 1 (.slice (some ⟨w1.heap.size, 0, none⟩) n n) n (madeCells #[.int .i64 0] n).toList := World.ownsRow_lit w1 _ n (Nat.le_refl _) (by unfold maxLen; omega) (by rw [size_madeCells]; omega)
  have s2 : (w1.alloc (.cells (madeCells #[.int .i64 0] n) 3)).heap.size = w1.heap.size + 1 := by simp
  have b2 := fresh w1 (.cells (madeCells #[.int .i64 0] n) 3)
  rw [zcells_zero] at o2
  generalize w1.alloc _ = w2 at s2 o2 b2 ⊢
  have s3 : (w2.alloc (.cells #[.slice (some ⟨w.heap.size + 1, 0, none⟩) n n] 23)).heap.size = w2.heap.size + 1 := by simp
  have c3 : (w2.alloc (.cells #[.slice (some ⟨w.heap.size + 1, 0, none⟩) n n] 23)).cell? ⟨w2.heap.size, 0, none⟩ = some (.slice (some ⟨w.heap.size + 1, 0, none⟩) n n) := by simp
  have b3 := fresh w2 (.cells #[.slice (some ⟨w.heap.size + 1, 0, none⟩) n n] 23)
  generalize w2.alloc _ = w3 at s3 c3 b3 ⊢
  have c4 : (w3.alloc (.cells #[.nilFunc] 64)).cell? ⟨w3.heap.size, 0, none⟩ = some .nilFunc := by simp
  have f4 : (w3.alloc (.cells #[.nilFunc] 64)).frozen? ⟨w3.heap.size, 0, none⟩ = false := by unfold World.frozen?; rw [World.alloc_heap_new]; rfl
  have b4 := fresh w3 (.cells #[.nilFunc] 64)
  rw [s3, s2, s1] at c4 f4
  rw [s2, s1] at c3
  rw [s1] at o2
  refine ⟨later (later (later b1 b2) b3) b4, ?_, owns_below (owns_below o2 b3) b4, ?_, c4, f4⟩
  · exact (b4.cell (p := ⟨w.heap.size, 0, none⟩) (by show w.heap.size < _; omega)).trans ((b3.cell (p := ⟨w.heap.size, 0, none⟩) (by show w.heap.size < _; omega)).trans ((b2.cell (p := ⟨w.heap.size, 0, none⟩) (by show w.heap.size < _; omega)).trans c1))
  · exact (b4.cell (p := ⟨w.heap.size + 1 + 1, 0, none⟩) (by show w.heap.size + 1 + 1 < _; omega)).trans c3
set_option maxHeartbeats 4000000 in
set_option maxRecDepth 100000 in
theorem goround_any {w : World} {a : Option Addr} {n c : Nat} {W : List (List Int)} (h : Mr w a n W) (hF : Route.Fit W) (hn : n ≤ 36) :
    Calls Try.prog 24 #[.slice a n c] w fun e w' => ∃ b : Bool, e = .returned (.bool b) ∧ (b = true → ∃ i, Route.Plus W i i) ∧ (b = false → ∀ i, ¬ Route.Plus W i i) ∧ Below w.heap.size w w' := by
  have HM : Hid (Mr w a n W) := h
  have HF : Hid (Route.Fit W) := hF
  have HW : Hid (W.length = n) := h.1
  have HBx : Hid _ := round_boxes w a n c hn
  clear h hF
  have hmf : ∀ (fn : Fn) (first cap : Array Value) (w : World), (Instr.makeFunc fn first cap).run Try.prog w = .ok (.func fn first cap) w := fun _ _ _ _ => rfl
  have hmk := run_make_row' (P := Try.prog) 23 3 (.int .i64 0) 8 Try.underlying23 infoI rfl .i64 .i64 n (by omega) (by omega)
  go_enter Try.func24, Try.ntmps24
  go_upto_region 3 with fail
  obtain ⟨hB, k1, k2, k3, k4, k5⟩ := HBx.out _ rfl
  have HB : Hid _ := hB
  have HO : Hid _ := k2
  have HC : Hid (_ ∧ _) := ⟨k1, k3⟩
  clear hB k1 k2 k3 HBx hmk
  generalize World.alloc _ _ = X at HB HO HC k4 k5 ⊢
  obtain ⟨bw, hbw⟩ : ∃ g, w.heap.size = g := ⟨_, rfl⟩
  have HBw : Hid (w.heap.size = bw) := hbw
  rw [hbw] at HB HO HC k4 k5 ⊢
  obtain ⟨g, hg⟩ : ∃ g, bw + 1 = g := ⟨_, rfl⟩
  rw [hg] at HO HC k4 k5 ⊢
  obtain ⟨bm, hbm⟩ : ∃ x, g + 1 = x := ⟨_, rfl⟩
  rw [hbm] at HC k4 k5 ⊢
  obtain ⟨bf, hbf⟩ : ∃ x, bm + 1 = x := ⟨_, rfl⟩
  rw [hbf] at k4 k5 ⊢
  have HN : Hid (bw + 1 = g ∧ g + 1 = bm ∧ bm + 1 = bf) := ⟨hg, hbm, hbf⟩
  have HA : Hid (Apart w bm bw bf g) := ⟨by omega, by omega, by omega, by omega⟩
  clear hbw hg hbm hbf
  go_upto_region 4 with fail
  have HS : Hid (Sea w bm bw bf g n a c (List.replicate n 0) (X.setCell ⟨bf, 0, none⟩ (.func (Fn.func 41) #[] #[.pointer (some ⟨bm, 0, none⟩), .pointer (some ⟨bw, 0, none⟩), .pointer (some ⟨bf, 0, none⟩)]))) := by
    have s : Sans (fun j => j = bf) X (X.setCell ⟨bf, 0, none⟩ (.func (Fn.func 41) #[] #[.pointer (some ⟨bm, 0, none⟩), .pointer (some ⟨bw, 0, none⟩), .pointer (some ⟨bf, 0, none⟩)])) := Sans.of_set _ _ _ rfl
    have hh := HN.out
    have hb := HB.out
    rw [← HBw.out] at hb
    exact ⟨hb.trans (s.below (B := w.heap.size) hb.size (fun j e => by have := HBw.out; omega)), (s.cell (p := ⟨bm, 0, none⟩) (cell_lt HC.out.2) (by show ¬ bm = bf; omega)).trans HC.out.2, (s.cell (p := ⟨bw, 0, none⟩) (cell_lt HC.out.1) (by show ¬ bw = bf; omega)).trans HC.out.1, World.cell?_setCell_same _ _ _ k4, owns_s1 HO.out s (fun j e => by simp only [Value.ownBlock, Option.some.injEq] at e; omega)⟩
  clear k4 k5 HB HO HC hmf
  generalize World.setCell _ _ _ = Y at HS ⊢
  have q0 := HS.out.cw
  go_wp2_with fail
  clear q0
  go_loopw [12] (fun i wr => ∃ (k : Nat) (M : List Int), k ≤ n ∧ i = .int .i64 k ∧ Sea w bm bw bf g n a c M wr ∧ Route.Dfs W M ∧ (∀ i, M.getD i 0 ≠ 1) ∧ (∀ t, t < k → M.getD t 0 = 2)) (fun i _ => n - (intOf i).toNat)
  case atStart =>
    have h := Route.dfs_start W
    rw [HW.out] at h
    exact ⟨0, _, Nat.zero_le _, rfl, HS.out, h, fun i e => by
      rw [List.getD_eq_getElem?_getD, List.getElem?_replicate] at e
      split at e <;> simp at e, fun t ht => by omega⟩
  case round =>
    obtain ⟨k, M, hk, rfl, hS, hD, hno, hall⟩ := hrel
    have HSk : Hid (Sea w bm bw bf g n a c M wr) := hS
    have HD : Hid (Route.Dfs W M) := hD
    have HNo : Hid (∀ i, M.getD i 0 ≠ 1) := hno
    have HAll : Hid (∀ t, t < k → M.getD t 0 = 2) := hall
    have q4 := hS.cf
    clear hS hD hno hall
    by_cases hkn : k < n
    · have HCall : Hid _ := searches_all HA.out HM.out HF.out hn (Route.zs M) wr M k HSk.out HD.out hkn (fun i hi => absurd hi (HNo.out i)) (Nat.le_refl _)
      go_wp2_with (go_at_call 41; refine Calls.mono HCall.out ?_; rintro e w3 ⟨b, rfl, ht, hf, hs3⟩; have HT : Hid _ := ht; have HFl : Hid _ := hf; have HS3 : Hid (Sans (fun j => j = g) wr w3) := hs3; clear ht hf hs3; cases b)
      · obtain ⟨M3, h3, h4, h5⟩ := HFl.out (by trivial)
        have HR : Hid (Sea w bm bw bf g n a c M3 w3 ∧ Route.Dfs W M3 ∧ (∀ i, M3.getD i 0 ≠ 1) ∧ (∀ t, t < k + 1 → M3.getD t 0 = 2)) := ⟨h5, h3.dfs, fun i hi => HNo.out i ((h3.opn i).1 hi), fun t ht => by
          by_cases e : t = k
          · rw [e]; exact h4
          · exact h3.shut t (HAll.out t (by omega))⟩
        clear h3 h4 h5 HFl HT
        go_wp2_with fail
        go_roundw
        case rel => first | exact ⟨k + 1, M3, by omega, by go_num, HR.out⟩ | ((repeat apply Exists.intro); exact ⟨⟨k + 1, M3, by omega, by go_num, HR.out⟩, rfl⟩)
        case measure => simp [intOf]; omega
      · have HTx : Hid (∃ i, Route.Plus W i i) := HT.out (by trivial)
        have HBe : Hid (Below w.heap.size w w3) := HSk.out.bel.trans (HS3.out.below (B := w.heap.size) HSk.out.bel.size (fun j e => by have := HA.out.hi; omega))
        clear HFl HT
        go_wp2_with fail
        go_ret
        exact ⟨true, rfl, fun _ => HTx.out, fun e => (by cases e), HBe.out⟩
    · obtain rfl : k = n := by omega
      have HR : Hid (∀ i, ¬ Route.Plus W i i) := fun i hi => by
        obtain ⟨j, e, _⟩ := hi.turn
        exact HD.out.calm i (HAll.out i (by have := e.1; have := HW.out; omega)) hi
      go_wp2_with fail
      go_ret
      exact ⟨false, rfl, fun e => (by cases e), fun _ => HR.out, HSk.out.bel⟩
end Go.Proofs.Ytphaaolnmbadcaa
namespace Go.Proofs.Ytphaaolnmbadcaa
open Go.ChangeShapes Go.WideShapes Go.ChangeAt Go.RowKit
set_option linter.unusedVariables false

theorem pcheck_is {w : World} {p : PV} {es : List (Int × Int)} {ws : List Int} {ns : List Nat} (h : Pl w p es ws ns) {b : Bool} (hb : Plan.may p.num es ws ns = b) :
    Calls Try.prog 21 #[p.val] w fun e w' => e = .returned (.int .u16 (Plan.errno b)) ∧ Below w.heap.size w w' := by
  subst hb
  exact check_any h
theorem rowA_owns {w : World} {N G : Nat} {v : Value} {l : List Int} (hO : w.ownsRow N 3 1 v l.length (zcells l)) (hG : G < N) : RowA w G (some G) v l := by
  obtain ⟨a, cap, rfl, hz, h1, h2, h3, h4⟩ := zr_of_owns hO
  refine ⟨_, _, rfl, hz, h1, h2, h3, fun ad e => ?_⟩
  rcases h4 with ⟨h, _⟩ | ⟨g, h, h5, h6⟩
  · rw [h] at e; cases e
  · rw [h] at e
    cases e
    exact ⟨by show G ≤ g; omega, h6, fun e => by have := Option.some.inj e; simp only at this; omega⟩
set_option maxHeartbeats 4000000 in
set_option maxRecDepth 100000 in
theorem waits_any {w : World} {p : PV} {es : List (Int × Int)} {ws : List Int} {rs : List (List Int)} (h : PlN w p es ws rs) {b : Bool} (hb : Plan.may p.num es ws (rs.map List.length) = b) :
    Calls Try.prog 13 #[p.val] w fun e w' => ∃ a c, e = .returned (.slice a (Route.waitsOf b p.nodes es rs).length c) ∧ Mr w' a (Route.waitsOf b p.nodes es rs).length (Route.waitsOf b p.nodes es rs) ∧ Below w.heap.size w w' := by
  have HX : Hid (Bxd (w.alloc p.obj) w.heap.size p) := bxd_new w p
  have HPb : Hid (PlN (w.alloc p.obj) p es ws rs) := h.below (fresh _ _)
  have HW : Hid (Below w.heap.size w (w.alloc p.obj)) := fresh _ _
  have HMb : Hid (Plan.may p.num es ws (rs.map List.length) = b) := hb
  clear h
  obtain ⟨x0, x1, x2, x3, x4, x5, x6, x7, x8, x9, x10⟩ := HX.out
  simp only [PV.obj] at HX HPb HW x0 x1 x2 x3 x4 x5 x6 x7 x8 x9 x10
  cases b with
  | false =>
    clear hb
    unfold PV.val
    go_enter Try.func13, Try.ntmps13
    go_wp2_with fail
    refine (pcheck_is HPb.out.pl HMb.out).mono ?_
    rintro e w1 ⟨rfl, hB1⟩
    have HB1 : Hid (Below w.heap.size w w1) := later HW.out hB1
    have ee : Plan.errno false = 120 := rfl
    rw [ee]
    clear hB1 x0 x1 x2 x3 x4 x5 x6 x7 x8 x9 x10 ee
    go_wp2_with fail
    go_ret
    have he : Route.waitsOf false p.nodes es rs = [] := rfl
    rw [he]
    exact ⟨none, 0, rfl, ⟨rfl, by unfold maxLen; simp, .inl rfl⟩, HB1.out⟩
  | true =>
    obtain ⟨n, hm⟩ := may_n hb
    have HM : Hid (MayN p es rs n) := hm
    have hN := hm.nodes
    have hn6 := hm.two
    obtain ⟨l, hl⟩ : ∃ l, Plan.hops p.nodes es = l := ⟨_, rfl⟩
    have HLi : Hid (∀ e ∈ l, (0 ≤ e.1 ∧ e.1 < (n : Int)) ∧ (0 ≤ e.2 ∧ e.2 < (n : Int))) := by
      show ∀ _, _
      rw [← hl, hN]
      exact fun e he => hops_in hm he
    have hl36 : l.length ≤ 36 := by rw [← hl, hN]; exact hops_few es hn6.2
    have HWo : Hid (Route.waitsOf true p.nodes es rs = Route.rowsOf n rs l) := by
      show _ = _
      unfold Route.waitsOf
      rw [if_pos rfl, hl, hN, Int.toNat_natCast]
    have HL : Hid (Plan.hops p.nodes es = l) := hl
    rw [HWo.out]
    clear hb hm hl hN
    unfold PV.val
    go_enter Try.func13, Try.ntmps13
    go_wp2_with fail
    refine (pcheck_is HPb.out.pl HMb.out).mono ?_
    rintro e w1 ⟨rfl, hB1⟩
    have HB1 : Hid (Below w.heap.size w w1) := later HW.out hB1
    have HX1 : Hid (Bxd w1 w.heap.size p) := HX.out.below hB1
    have HP1 : Hid (PlN w1 p es ws rs) := HPb.out.below hB1
    have ee : Plan.errno true = 0 := rfl
    rw [ee]
    clear hB1 x0 x1 x2 x3 x4 x5 x6 x7 x8 x9 x10 ee
    obtain ⟨x0, x1, x2, x3, x4, x5, x6, x7, x8, x9, x10⟩ := HX1.out
    go_wp2_with fail
    refine (hops_own HP1.out.pl).mono ?_
    rintro e w2 ⟨u, rfl, hO2, hB2⟩
    rw [HL.out] at hO2
    obtain ⟨ha, hcap, rfl, hpr, _⟩ := pr_of_owns hO2
    obtain ⟨m, hLl⟩ : ∃ m, l.length = m := ⟨_, rfl⟩
    have hrl : (Route.rowsOf n rs l).length = m := by rw [Route.rowsOf_len]; exact hLl
    rw [hLl] at hpr hl36 ⊢
    have HLl : Hid (l.length = m) := hLl
    have HRl : Hid ((Route.rowsOf n rs l).length = m) := hrl
    have HPr2 : Hid (Pr w2 ha m l) := hpr
    have HB2 : Hid (Below w.heap.size w w2) := later HB1.out hB2
    have HX2 : Hid (Bxd w2 w.heap.size p) := HX1.out.below hB2
    have HP2 : Hid (PlN w2 p es ws rs) := HP1.out.below hB2
    have hg : w.heap.size < w2.heap.size := cell_lt HX2.out.c0
    have hmk := run_make_row' (P := Try.prog) 25 23 (.slice none 0 0) 24 Try.underlying25 infoRR rfl .i64 .i64 m (by omega) (by omega)
    have HM0 : Hid ((w2.alloc (.cells (madeCells #[.slice none 0 0] m) 23)).ownsRow w2.heap.size 23 1 (.slice (some ⟨w2.heap.size, 0, none⟩) m m) m (madeCells #[.slice none 0 0] m).toList) := made_rows w2 m (by omega)
    have HF0 : Hid (Below w2.heap.size w2 (w2.alloc (.cells (madeCells #[.slice none 0 0] m) 23))) := fresh _ _
    clear hB2 hO2 hpr hLl hrl x0 x1 x2 x3 x4 x5 x6 x7 x8 x9 x10 HB1 HX1 HP1
    go_wp2_with fail
    clear hmk
    generalize w2.alloc _ = X at HM0 HF0 ⊢
    obtain ⟨G, hG⟩ : ∃ G, w2.heap.size = G := ⟨_, rfl⟩
    have HG : Hid (w2.heap.size = G) := hG
    rw [hG] at HM0 HF0 hg ⊢
    have HXX : Hid (Bxd X w.heap.size p) := HX2.out.below (by rw [hG]; exact HF0.out)
    clear hG
    go_loopw [17] (fun i wr => ∃ (t : Nat) (xs : List Value), t ≤ m ∧ i = .int .i64 t ∧ wr.ownsRow G 23 1 (.slice (some ⟨G, 0, none⟩) m m) m xs ∧ (∀ i, i < t → RowA wr G (some G) (xs.getD i undef) ((Route.rowsOf n rs l).getD i [])) ∧ Sans (fun j => j = G) X wr) (fun i _ => m - (intOf i).toNat)
    case atStart => exact ⟨0, _, Nat.zero_le _, rfl, HM0.out, fun i hi => by omega, Sans.refl _ _⟩
    case round =>
      obtain ⟨t, xs, ht, rfl, hO, hR, hS⟩ := hrel
      obtain ⟨wt, hwt⟩ : ∃ wt, wt = wr := ⟨_, rfl⟩
      subst hwt
      have HOw : Hid (wt.ownsRow G 23 1 (.slice (some ⟨G, 0, none⟩) m m) m xs) := hO
      have HR : Hid (∀ i, i < t → RowA wt G (some G) (xs.getD i undef) ((Route.rowsOf n rs l).getD i [])) := hR
      have HS : Hid (Sans (fun j => j = G) X wt) := hS
      have hxl := hO.1
      have hGlt := (hO.lt G rfl).2
      have HBe : Hid (Below w2.heap.size w2 wt) := by
        have hb := HF0.out
        rw [← HG.out] at hb
        exact hb.trans (hS.below (B := w2.heap.size) hb.size (fun j e => by have := HG.out; omega))
      by_cases htm : t < m
      · have htI : (t : Int) < (m : Int) := by omega
        have HXt : Hid (Bxd wt w.heap.size p) := HXX.out.sans hS (by omega)
        obtain ⟨hb, ho, eh, ch1, ch2⟩ := (HPr2.out.below HBe.out).at htm
        subst eh
        have hin := HLi.out (l.getD t (0, 0)) (by
          rw [List.getD_eq_getElem?_getD, List.getElem?_eq_getElem (show t < l.length by have := HLl.out; omega)]
          exact List.getElem_mem _)
        obtain ⟨a1, hba1⟩ : ∃ a, (l.getD t (0, 0)).1 = a := ⟨_, rfl⟩
        obtain ⟨a2, hba2⟩ : ∃ a, (l.getD t (0, 0)).2 = a := ⟨_, rfl⟩
        have HAt : Hid (l.getD t (0, 0) = (a1, a2)) := by show _ = _; rw [← hba1, ← hba2]
        rw [hba1] at ch1 hin
        rw [hba2] at ch2 hin
        have HRow : Hid (Route.rowTo n rs l (a1, a2) m = (Route.rowsOf n rs l).getD t []) := by
          show _ = _
          rw [Route.rowsOf_at (by have := HLl.out; omega), ← Route.rowTo_all, HLl.out, HAt.out]
        have HBx2 : Hid _ := box_two wt a1 a2
        have h0 := hO.cellAt t (by omega)
        rw [List.getElem?_eq_getElem (by omega)] at h0
        obtain ⟨z0, hz0⟩ : ∃ z, xs[t] = z := ⟨_, rfl⟩
        rw [hz0] at h0
        have f0 := hO.frozenAt t
        have HZ0 : Hid (wt.cell? ⟨G, t, none⟩ = some z0 ∧ wt.frozen? ⟨G, t, none⟩ = false) := ⟨h0, f0⟩
        clear hba1 hba2 hz0 h0 f0 hO hR hS
        go_upto_region 8 with fail
        obtain ⟨hB3, cb1, cb2, hsz3⟩ := HBx2.out _ rfl
        have HB3 : Hid _ := hB3
        clear HBx2 ch1 ch2 hsz3
        generalize wt.alloc _ = w3 at HB3 hB3 cb1 cb2 ⊢
        have x10 := (HXt.out.below hB3).c10
        obtain ⟨g3, hg3⟩ : ∃ g, wt.heap.size = g := ⟨_, rfl⟩
        have HG3 : Hid (wt.heap.size = g3) := hg3
        rw [hg3] at hB3 cb1 cb2 ⊢
        have HCall : Hid _ := behind_any (c := hcap) ((HP2.out.below HBe.out).below HB3.out) HM.out ((HPr2.out.below HBe.out).below HB3.out) hl36 a1 a2 hin.1 hin.2
        clear hB3 hg3
        go_wp2_with fail
        refine Calls.mono HCall.out ?_
        rintro e w4 ⟨v4, rfl, hO4, hB4⟩
        have hRA := rowA_owns (G := G) hO4 (by have := HB3.out.size; omega)
        obtain ⟨a4, c4, rfl, _⟩ := zr_of_owns hO4
        obtain ⟨r4, hr4⟩ : ∃ r4, Route.rowTo n rs l (a1, a2) m = r4 := ⟨_, rfl⟩
        rw [hr4] at hRA ⊢
        have HR4 : Hid (Route.rowTo n rs l (a1, a2) m = r4) := hr4
        obtain ⟨n4, hn4⟩ : ∃ n4, r4.length = n4 := ⟨_, rfl⟩
        rw [hn4] at hRA ⊢
        have HRA : Hid (RowA w4 G (some G) (.slice a4 n4 c4) r4) := hRA
        have HB4 : Hid (Below wt.heap.size wt w4) := later HB3.out hB4
        have k0 := (HB4.out.cell (p := ⟨G, t, none⟩) hGlt).trans HZ0.out.1
        have k1 := (HB4.out.frozen (p := ⟨G, t, none⟩) hGlt).trans HZ0.out.2
        clear hO4 hB4 hRA hr4 hn4 cb1 cb2 x10 HCall
        go_wp2_with fail
        have HS5 : Hid (Sans (fun j => j = G) wt (w4.setCell ⟨G, t, none⟩ (.slice a4 n4 c4))) := (Sans.of_below HB4.out).then (Sans.of_set _ _ _ rfl)
        have HO5 : Hid ((w4.setCell ⟨G, t, none⟩ (.slice a4 n4 c4)).ownsRow G 23 1 (.slice (some ⟨G, 0, none⟩) m m) m (xs.set t (.slice a4 n4 c4))) := ((owns_below HOw.out HB4.out).stored t _).1
        have HRf : Hid (∀ i, i < t + 1 → RowA (w4.setCell ⟨G, t, none⟩ (.slice a4 n4 c4)) G (some G) ((xs.set t (.slice a4 n4 c4)).getD i undef) ((Route.rowsOf n rs l).getD i [])) := fun i hi => by
          by_cases e : i = t
          · subst e
            rw [getD_set_eq (by omega), ← HRow.out, HR4.out]
            exact HRA.out.keep (Sans.of_set (F := fun j => j = G) _ _ _ rfl) (fun q h1 h2 h3 => fun e => h3 (by rw [e]))
          · rw [getD_set_ne (by omega)]
            exact (HR.out i (by omega)).keep HS5.out (fun q h1 h2 h3 => fun e => h3 (by rw [e]))
        have HSX : Hid (Sans (fun j => j = G) X (w4.setCell ⟨G, t, none⟩ (.slice a4 n4 c4))) := HS.out.then HS5.out
        go_roundw
        case rel => first | exact ⟨t + 1, _, by omega, by go_num, HO5.out, HRf.out, HSX.out⟩ | ((repeat apply Exists.intro); exact ⟨⟨by omega, by go_num, HO5.out, HRf.out, HSX.out⟩, rfl⟩)
        case measure => simp [intOf]; omega
      · obtain rfl : t = m := by omega
        have HC : Hid (∃ a c, Ending.returned (Value.slice (some ⟨G, 0, none⟩) t t) = .returned (.slice a t c) ∧ Mr wt a t (Route.rowsOf n rs l) ∧ Below w.heap.size w wt) := by
          obtain ⟨a, cap, e, hmr, _⟩ := mr_of_rb (w := wt) (base := G) (v := .slice (some ⟨G, 0, none⟩) t t) (k := t) (rs := Route.rowsOf n rs l) (vs := xs) ⟨HOw.out, by omega, HRl.out, HR.out⟩
          simp only [Value.slice.injEq, true_and] at e
          obtain ⟨rfl, rfl⟩ := e
          exact ⟨_, _, rfl, hmr, later HB2.out HBe.out⟩
        clear hO hR hS hGlt
        go_wp2_with fail
        go_ret
        rw [HRl.out]
        exact HC.out
end Go.Proofs.Ytphaaolnmbadcaa
namespace Go.Proofs.Ytphaaolnmbadcaa
open Go.ChangeShapes Go.WideShapes Go.ChangeAt Go.RowKit
set_option linter.unusedVariables false

/-- what Path comes to, as the laws ask -/
def PathEnd (R : List Int) (w : World) (e : Ending) (w' : World) : Prop := ∃ a c, e = .returned (.slice a R.length c) ∧ Zr w' a R.length R ∧ R.length ≤ c ∧ c ≤ maxLen ∧ Below w.heap.size w w'
theorem pathEnd_nil {R : List Int} (hR : R = []) {w w' : World} (h : Below w.heap.size w w') : PathEnd R w (.returned (.slice none 0 0)) w' := by
  subst hR
  exact ⟨none, 0, rfl, Zr.nil, Nat.le_refl _, by unfold maxLen; omega, h⟩
set_option maxHeartbeats 4000000 in
set_option maxRecDepth 100000 in
theorem path_any {w : World} {p : PV} {es : List (Int × Int)} {ws : List Int} {rs : List (List Int)} (h : PlN w p es ws rs) {b : Bool} (hb : Plan.may p.num es ws (rs.map List.length) = b) (v u : Int) :
    Calls Try.prog 12 #[p.val, .int .i64 v, .int .i64 u] w fun e w' => PathEnd (Route.pathOf b p.nodes es rs v u) w e w' := by
  have HX : Hid (Bxd (w.alloc p.obj) w.heap.size p) := bxd_new w p
  have HPb : Hid (PlN (w.alloc p.obj) p es ws rs) := h.below (fresh _ _)
  have HW : Hid (Below w.heap.size w (w.alloc p.obj)) := fresh _ _
  have HMb : Hid (Plan.may p.num es ws (rs.map List.length) = b) := hb
  clear h
  obtain ⟨x0, x1, x2, x3, x4, x5, x6, x7, x8, x9, x10⟩ := HX.out
  simp only [PV.obj] at HX HPb HW x0 x1 x2 x3 x4 x5 x6 x7 x8 x9 x10
  cases b with
  | false =>
    have HR : Hid (Route.pathOf false p.nodes es rs v u = []) := pathOf_no rfl
    clear hb
    unfold PV.val
    go_enter Try.func12, Try.ntmps12
    go_wp2_with fail
    refine (pcheck_is HPb.out.pl HMb.out).mono ?_
    rintro e w1 ⟨rfl, hB1⟩
    have HB1 : Hid (Below w.heap.size w w1) := later HW.out hB1
    have ee : Plan.errno false = 120 := rfl
    rw [ee]
    clear hB1 x0 x1 x2 x3 x4 x5 x6 x7 x8 x9 x10 ee
    go_wp2_with fail
    go_ret
    exact pathEnd_nil HR.out HB1.out
  | true =>
    obtain ⟨n, hm⟩ := may_n hb
    have HM : Hid (MayN p es rs n) := hm
    have HN : Hid (p.nodes = (n : Int)) := hm.nodes
    clear hb hm
    obtain ⟨b1, hb1⟩ : ∃ b, Route.isIn p.nodes v = b := ⟨_, rfl⟩
    obtain ⟨b2, hb2⟩ : ∃ b, Route.isIn p.nodes u = b := ⟨_, rfl⟩
    have HB1' : Hid (Route.isIn p.nodes v = b1) := hb1
    have HB2' : Hid (Route.isIn p.nodes u = b2) := hb2
    have HPo : Hid (Route.pathOf true p.nodes es rs v u = if b1 && b2 then Route.go es rs u (p.nodes.toNat - 1) v else []) := by
      show _ = _
      unfold Route.pathOf
      rw [hb1, hb2, Bool.true_and]
    clear hb1 hb2
    obtain ⟨pv, hpv⟩ : ∃ pv, p.val = pv := ⟨_, rfl⟩
    have HPv : Hid (p.val = pv) := hpv
    clear hpv pv HPv
    unfold PV.val
    go_enter Try.func12, Try.ntmps12
    go_wp2_with fail
    refine (pcheck_is HPb.out.pl HMb.out).mono ?_
    rintro e w1 ⟨rfl, hB1⟩
    have HB1 : Hid (Below w.heap.size w w1) := later HW.out hB1
    have HX1 : Hid (Bxd w1 w.heap.size p) := HX.out.below hB1
    have HP1 : Hid (PlN w1 p es ws rs) := HPb.out.below hB1
    have ee : Plan.errno true = 0 := rfl
    rw [ee]
    clear hB1 x0 x1 x2 x3 x4 x5 x6 x7 x8 x9 x10 ee
    obtain ⟨x0, x1, x2, x3, x4, x5, x6, x7, x8, x9, x10⟩ := HX1.out
    go_wp2_with fail
    refine (risnode_any w1 p v).mono ?_
    rintro e w2 ⟨rfl, hB2⟩
    rw [HB1'.out]
    have HB2 : Hid (Below w.heap.size w w2) := later HB1.out hB2
    have HX2 : Hid (Bxd w2 w.heap.size p) := HX1.out.below hB2
    have HP2 : Hid (PlN w2 p es ws rs) := HP1.out.below hB2
    clear hB2 x0 x1 x2 x3 x4 x5 x6 x7 x8 x9 x10
    cases b1 with
    | false =>
      have HR : Hid (Route.pathOf true p.nodes es rs v u = []) := by show _ = _; rw [HPo.out]; rfl
      go_wp2_with fail
      go_ret
      exact pathEnd_nil HR.out HB2.out
    | true =>
      obtain ⟨x0, x1, x2, x3, x4, x5, x6, x7, x8, x9, x10⟩ := HX2.out
      go_wp2_with fail
      refine (risnode_any w2 p u).mono ?_
      rintro e w3 ⟨rfl, hB3⟩
      rw [HB2'.out]
      have HB3 : Hid (Below w.heap.size w w3) := later HB2.out hB3
      have HX3 : Hid (Bxd w3 w.heap.size p) := HX2.out.below hB3
      have HP3 : Hid (PlN w3 p es ws rs) := HP2.out.below hB3
      clear hB3 x0 x1 x2 x3 x4 x5 x6 x7 x8 x9 x10
      cases b2 with
      | false =>
        have HR : Hid (Route.pathOf true p.nodes es rs v u = []) := by show _ = _; rw [HPo.out]; rfl
        go_wp2_with fail
        go_ret
        exact pathEnd_nil HR.out HB3.out
      | true =>
        have HR : Hid (Route.pathOf true p.nodes es rs v u = Route.go es rs u (n - 1) v) := by
          show _ = _
          rw [HPo.out, HN.out, Int.toNat_natCast]
          rfl
        have HIn : Hid ((0 ≤ v ∧ v < (n : Int)) ∧ (0 ≤ u ∧ u < (n : Int))) := by
          have h1 := HB1'.out
          have h2 := HB2'.out
          unfold Route.isIn at h1 h2
          simp only [Bool.and_eq_true, decide_eq_true_eq] at h1 h2
          have := HN.out
          show _ ∧ _
          omega
        obtain ⟨x0, x1, x2, x3, x4, x5, x6, x7, x8, x9, x10⟩ := HX3.out
        go_wp2_with fail
        refine (ways_any HP3.out HM.out).mono ?_
        rintro e w4 ⟨a4, c4, rfl, hC4, hB4⟩
        have HB4 : Hid (Below w.heap.size w w4) := later HB3.out hB4
        have HC4 : Hid _ := hC4
        clear hB4 hC4 x0 x1 x2 x3 x4 x5 x6 x7 x8 x9 x10
        have HCall : Hid _ := walk_any (c := c4) HC4.out v u HIn.out.1 HIn.out.2 rfl
        go_wp2_with fail
        refine Calls.mono HCall.out ?_
        rintro e w5 ⟨x5, rfl, hO5, _, hB5⟩
        have HO5 : Hid _ := hO5
        have HB5 : Hid (Below w.heap.size w w5) := later HB4.out hB5
        clear hO5 hB5 HCall
        go_wp2_with fail
        go_ret
        rw [HR.out]
        obtain ⟨a5, c5, rfl, hz, h1, h2, _⟩ := zr_of_owns HO5.out
        exact ⟨a5, c5, rfl, hz, h1, h2, HB5.out⟩
set_option maxHeartbeats 4000000 in
set_option maxRecDepth 100000 in
theorem rcheckland_any {w : World} {p : PV} {es : List (Int × Int)} {ws : List Int} {rs : List (List Int)} (h : PlN w p es ws rs) {b : Bool} (hb : Plan.may p.num es ws (rs.map List.length) = b) :
    Calls Try.prog 11 #[p.val] w fun e w' => ∃ z, e = .returned (.int .u16 z) ∧ Route.CheckIs b p.nodes es rs z ∧ Below w.heap.size w w' := by
  have HX : Hid (Bxd (w.alloc p.obj) w.heap.size p) := bxd_new w p
  have HPb : Hid (PlN (w.alloc p.obj) p es ws rs) := h.below (fresh _ _)
  have HW : Hid (Below w.heap.size w (w.alloc p.obj)) := fresh _ _
  have HMb : Hid (Plan.may p.num es ws (rs.map List.length) = b) := hb
  clear h
  obtain ⟨x0, x1, x2, x3, x4, x5, x6, x7, x8, x9, x10⟩ := HX.out
  simp only [PV.obj] at HX HPb HW x0 x1 x2 x3 x4 x5 x6 x7 x8 x9 x10
  cases b with
  | false =>
    clear hb
    unfold PV.val
    go_enter Try.func11, Try.ntmps11
    go_wp2_with fail
    refine (pcheck_is HPb.out.pl HMb.out).mono ?_
    rintro e w1 ⟨rfl, hB1⟩
    have HB1 : Hid (Below w.heap.size w w1) := later HW.out hB1
    have ee : Plan.errno false = 120 := rfl
    rw [ee]
    clear hB1 x0 x1 x2 x3 x4 x5 x6 x7 x8 x9 x10 ee
    go_wp2_with fail
    go_ret
    exact ⟨120, rfl, .inl ⟨rfl, rfl⟩, HB1.out⟩
  | true =>
    obtain ⟨n, hm⟩ := may_n hb
    have HM : Hid (MayN p es rs n) := hm
    have HN : Hid (p.nodes = (n : Int)) := hm.nodes
    have HF36 : Hid ((Route.rowsOf n rs (Plan.hops p.nodes es)).length ≤ 36) := by show _ ≤ _; rw [Route.rowsOf_len, hm.nodes]; exact hops_few es hm.two.2
    have HWo : Hid (Route.waitsOf true p.nodes es rs = Route.rowsOf n rs (Plan.hops p.nodes es)) := by
      show _ = _
      unfold Route.waitsOf
      rw [if_pos rfl, hm.nodes, Int.toNat_natCast]
    clear hb hm
    unfold PV.val
    go_enter Try.func11, Try.ntmps11
    go_wp2_with fail
    refine (pcheck_is HPb.out.pl HMb.out).mono ?_
    rintro e w1 ⟨rfl, hB1⟩
    have HB1 : Hid (Below w.heap.size w w1) := later HW.out hB1
    have HX1 : Hid (Bxd w1 w.heap.size p) := HX.out.below hB1
    have HP1 : Hid (PlN w1 p es ws rs) := HPb.out.below hB1
    have ee : Plan.errno true = 0 := rfl
    rw [ee]
    clear hB1 x0 x1 x2 x3 x4 x5 x6 x7 x8 x9 x10 ee
    obtain ⟨x0, x1, x2, x3, x4, x5, x6, x7, x8, x9, x10⟩ := HX1.out
    go_wp2_with fail
    refine (ways_any HP1.out HM.out).mono ?_
    rintro e w2 ⟨a2, c2, rfl, hC2, hB2⟩
    have HB2 : Hid (Below w.heap.size w w2) := later HB1.out hB2
    have HX2 : Hid (Bxd w2 w.heap.size p) := HX1.out.below hB2
    have HP2 : Hid (PlN w2 p es ws rs) := HP1.out.below hB2
    have HC2 : Hid _ := hC2
    clear hB2 hC2 x0 x1 x2 x3 x4 x5 x6 x7 x8 x9 x10
    go_wp2_with fail
    refine (allcome_any HC2.out).mono ?_
    rintro e w3 ⟨b3, rfl, ht3, hf3, hB3⟩
    have HT3 : Hid _ := ht3
    have HF3 : Hid _ := hf3
    have HB3 : Hid (Below w.heap.size w w3) := later HB2.out hB3
    have HX3 : Hid (Bxd w3 w.heap.size p) := HX2.out.below hB3
    have HP3 : Hid (PlN w3 p es ws rs) := HP2.out.below hB3
    clear hB3 ht3 hf3 HC2
    cases b3 with
    | false =>
      have HR : Hid (Route.CheckIs true p.nodes es rs 140) := by
        obtain ⟨v, hv, u, hu, hg⟩ := HF3.out rfl
        refine .inr (.inl ⟨rfl, .inl ?_, rfl⟩)
        have h := Route.not_all_come hv hu hg
        rw [HN.out]
        exact h
      clear HT3 HF3
      go_wp2_with fail
      go_ret
      exact ⟨140, rfl, HR.out, HB3.out⟩
    | true =>
      have HAC : Hid (Route.come es rs n) := HT3.out rfl
      clear HT3 HF3
      obtain ⟨x0, x1, x2, x3, x4, x5, x6, x7, x8, x9, x10⟩ := HX3.out
      go_wp2_with fail
      refine (waits_any HP3.out HMb.out).mono ?_
      rintro e w4 ⟨a4, c4, rfl, hmr4, hB4⟩
      rw [HWo.out] at hmr4 ⊢
      obtain ⟨W, hW⟩ : ∃ W, Route.rowsOf n rs (Plan.hops p.nodes es) = W := ⟨_, rfl⟩
      have HWe : Hid (Route.rowsOf n rs (Plan.hops p.nodes es) = W) := hW
      have HFit : Hid (Route.Fit W) := by show Route.Fit _; rw [← hW]; exact Route.rowsOf_fit _ _ _
      rw [hW] at hmr4 ⊢
      obtain ⟨m, hm⟩ : ∃ m, W.length = m := ⟨_, rfl⟩
      rw [hm] at hmr4 ⊢
      have hm36 : m ≤ 36 := by rw [← hm, ← hW]; exact HF36.out
      have HB4 : Hid (Below w.heap.size w w4) := later HB3.out hB4
      have HG : Hid _ := goround_any (c := c4) hmr4 HFit.out hm36
      clear hB4 hmr4 hW hm hm36 x0 x1 x2 x3 x4 x5 x6 x7 x8 x9 x10
      go_wp2_with fail
      refine Calls.mono HG.out ?_
      rintro e w5 ⟨b5, rfl, ht5, hf5, hB5⟩
      have HT5 : Hid _ := ht5
      have HF5 : Hid _ := hf5
      have HB5 : Hid (Below w.heap.size w w5) := later HB4.out hB5
      clear ht5 hf5 hB5 HG
      have HRo : Hid (Route.rowsOf p.nodes.toNat rs (Plan.hops p.nodes es) = W) := by show _ = _; rw [← HWe.out, HN.out, Int.toNat_natCast]
      cases b5 with
      | true =>
        have HR : Hid (Route.CheckIs true p.nodes es rs 140) := by
          refine .inr (.inl ⟨rfl, .inr ?_, rfl⟩)
          rw [HRo.out]
          exact HT5.out rfl
        clear HT5 HF5
        go_wp2_with fail
        go_ret
        exact ⟨140, rfl, HR.out, HB5.out⟩
      | false =>
        have HR : Hid (Route.CheckIs true p.nodes es rs 0) := by
          refine .inr (.inr ⟨rfl, fun hb => ?_, rfl⟩)
          rcases hb with hb | ⟨i, hi⟩
          · rw [HN.out] at hb
            exact Route.all_come HAC.out hb
          · rw [HRo.out] at hi
            exact HF5.out rfl i hi
        clear HT5 HF5
        go_wp2_with fail
        go_ret
        exact ⟨0, rfl, HR.out, HB5.out⟩
theorem routeSpec : RouteSpec where
  path := fun h b hb v u _ _ => path_any h hb v u
  waits := fun h b hb => waits_any h hb
  check := fun h b hb => rcheckland_any h hb
end Go.Proofs.Ytphaaolnmbadcaa
