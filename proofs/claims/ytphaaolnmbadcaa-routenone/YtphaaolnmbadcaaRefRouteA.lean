/-
  A plan whose ways are led to; the document's own waits (package shunterref14): may one hop have to wait for another one. Conditions: none but that the plan's rows are led to, and that the plan may be.
-/
import Derived.Test.YtphaaolnmbadcaaRouteMath
import Derived.Test.YtphaaolnmbadcaaTreeRows
import Derived.Test.YtphaaolnmbadcaaRefPlanE
import Derived.Test.YtphaaolnmbadcaaSince2
namespace Go.Proofs.Ytphaaolnmbadcaa
open Go.ChangeShapes Go.WideShapes Go.ChangeAt Go.RowKit
set_option linter.unusedVariables false

/-- a plan and the ways that it has -/
structure PlN (w : World) (p : PV) (es : List (Int × Int)) (ws : List Int) (rs : List (List Int)) : Prop where
  pl : Pl w p es ws (rs.map List.length)
  mr : Mr w p.na p.nn rs
  ni : ∀ r ∈ rs, ∀ x ∈ r, I64 x
theorem PlN.below {w w' : World} {p : PV} {es : List (Int × Int)} {ws : List Int} {rs : List (List Int)} (h : PlN w p es ws rs) (k : Below w.heap.size w w') : PlN w' p es ws rs := ⟨h.pl.below k, h.mr.below k, h.ni⟩
/-- what a plan that may be has -/
structure MayN (p : PV) (es : List (Int × Int)) (rs : List (List Int)) (n : Nat) : Prop where
  nodes : p.nodes = (n : Int)
  two : 2 ≤ n ∧ n ≤ 6
  rows : rs.length = n
  row : ∀ i, i < n → (rs.getD i []).length = n
  good : ∀ e ∈ es, 0 ≤ e.1 ∧ e.1 < e.2 ∧ e.2 < (n : Int)
theorem may_n {p : PV} {es : List (Int × Int)} {ws : List Int} {rs : List (List Int)} (h : Plan.may p.num es ws (rs.map List.length) = true) : ∃ n, MayN p es rs n := by
  unfold Plan.may at h
  simp only [Bool.and_eq_true, decide_eq_true_eq, List.all_eq_true] at h
  obtain ⟨⟨⟨⟨⟨h1, h2⟩, _⟩, _⟩, h5⟩, h6⟩ := h
  unfold Plan.fine at h1
  simp only [Bool.and_eq_true] at h1
  have hb := h1.1.1.1.1.1.1
  unfold Plan.bnd PV.num at hb
  simp only [Bool.and_eq_true, decide_eq_true_eq] at hb
  obtain ⟨n, hn⟩ := Int.eq_ofNat_of_zero_le (show 0 ≤ p.nodes by omega)
  have h5' : ((rs.map List.length).length : Int) = p.nodes := h5
  rw [List.length_map] at h5'
  refine ⟨n, hn, by omega, by omega, fun i hi => ?_, fun e he => ?_⟩
  · have hl : i < rs.length := by omega
    have h7 := h6 (rs[i]).length (List.mem_map.2 ⟨_, List.getElem_mem hl, rfl⟩)
    have h7' : (((rs[i]).length : Nat) : Int) = p.nodes := h7
    rw [List.getD_eq_getElem?_getD, List.getElem?_eq_getElem hl]
    simp only [Option.getD_some]
    omega
  · have h8 := ((Plan.edgesOk_iff _ es).1 h2).1 e he
    unfold Plan.Good at h8
    have : (PV.num p).nodes = (n : Int) := hn
    rw [this] at h8
    exact h8
theorem MayN.in_bes {p : PV} {es : List (Int × Int)} {rs : List (List Int)} {n : Nat} (h : MayN p es rs n) {v u : Int} (hu : u ∈ Plan.bes es v) : 0 ≤ u ∧ u < (n : Int) := by
  obtain ⟨_, h1 | h1⟩ := (Plan.mem_bes es v u).1 hu
  · have := h.good _ h1
    simp only at this
    omega
  · have := h.good _ h1
    simp only at this
    omega
theorem PlN.next {w : World} {p : PV} {es : List (Int × Int)} {ws : List Int} {rs : List (List Int)} {n : Nat} (h : PlN w p es ws rs) (hm : MayN p es rs n) {v u : Int} (hv : 0 ≤ v ∧ v < (n : Int)) (hu : 0 ≤ u ∧ u < (n : Int)) :
    ∃ b off rb ro rc, p.na = some ⟨b, off, none⟩ ∧ p.nn = n ∧ w.cell? ⟨b, off + v.toNat, none⟩ = some (.slice (some ⟨rb, ro, none⟩) n rc) ∧ w.cell? ⟨rb, ro + u.toNat, none⟩ = some (.int .i64 (Route.nx rs v u)) ∧ I64 (Route.nx rs v u) := by
  have hnn : p.nn = n := by rw [← h.mr.1]; exact hm.rows
  obtain ⟨b, off, ra, rc, e, hc, hz, _, _, _⟩ := h.mr.at (k := v.toNat) (by omega)
  have hl := hm.row v.toNat (by omega)
  rw [hl] at hc hz
  obtain ⟨rb, ro, e2, hc2⟩ := hz.at (k := u.toNat) (by omega)
  subst e2
  refine ⟨b, off, rb, ro, rc, e, hnn, hc, hc2, ?_⟩
  have h1 : v.toNat < rs.length := by have := hm.rows; omega
  have h2 : (rs.getD v.toNat []) ∈ rs := by
    rw [List.getD_eq_getElem?_getD, List.getElem?_eq_getElem h1]
    exact List.getElem_mem h1
  refine h.ni _ h2 _ ?_
  unfold Route.nx
  obtain ⟨r, hr⟩ : ∃ r, rs.getD v.toNat [] = r := ⟨_, rfl⟩
  rw [hr] at hl ⊢
  rw [List.getD_eq_getElem?_getD, List.getElem?_eq_getElem (show u.toNat < r.length by omega)]
  exact List.getElem_mem _
/-- three boxes: a plan and two hops -/
theorem wait_start (w : World) (p : PV) (a1 a2 b1 b2 : Int) (W : World) (hW : ((w.alloc p.obj).alloc (.cells #[.int .i64 a1, .int .i64 a2] 56)).alloc (.cells #[.int .i64 b1, .int .i64 b2] 56) = W) : Bxd W w.heap.size p ∧ Below w.heap.size w W ∧ W.cell? ⟨w.heap.size + 1, 0, none⟩ = some (.int .i64 a1) ∧ W.cell? ⟨w.heap.size + 1, 1, none⟩ = some (.int .i64 a2) ∧ W.cell? ⟨w.heap.size + 1 + 1, 0, none⟩ = some (.int .i64 b1) ∧ W.cell? ⟨w.heap.size + 1 + 1, 1, none⟩ = some (.int .i64 b2) := by
  have h1 := bxd_new w p
  have h2 := (h1.below (fresh (w.alloc p.obj) (.cells #[.int .i64 a1, .int .i64 a2] 56))).below (fresh _ (.cells #[.int .i64 b1, .int .i64 b2] 56))
  rw [hW] at h2
  have h3 : ∀ (u : World) (c d : Int), (u.alloc (.cells #[.int .i64 c, .int .i64 d] 56)).cell? ⟨u.heap.size, 0, none⟩ = some (.int .i64 c) ∧ (u.alloc (.cells #[.int .i64 c, .int .i64 d] 56)).cell? ⟨u.heap.size, 1, none⟩ = some (.int .i64 d) := fun u c d => ⟨by simp, by simp⟩
  have h4 := h3 (w.alloc p.obj) a1 a2
  have h5 := h3 ((w.alloc p.obj).alloc (.cells #[.int .i64 a1, .int .i64 a2] 56)) b1 b2
  rw [World.size_alloc] at h4
  rw [World.size_alloc, World.size_alloc, hW] at h5
  have h6 := fresh ((w.alloc p.obj).alloc (.cells #[.int .i64 a1, .int .i64 a2] 56)) (.cells #[.int .i64 b1, .int .i64 b2] 56)
  rw [hW] at h6
  exact ⟨h2, by rw [← hW]; exact later (later (fresh _ _) (fresh _ _)) (fresh _ _), (h6.cell (p := ⟨w.heap.size + 1, 0, none⟩) (by simp)).trans h4.1, (h6.cell (p := ⟨w.heap.size + 1, 1, none⟩) (by simp)).trans h4.2, h5.1, h5.2⟩
namespace Route
/-- hop a waits for hop b on the way to k -/
def waitAt (rs : List (List Int)) (a1 a2 b1 b2 : Int) (k : Nat) : Bool := decide (a2 = b1) && (decide ((k : Int) ≠ a2) && decide ((k : Int) ≠ a1) && decide (nx rs a1 k = a2) && decide (nx rs a2 k = b2))
theorem wait_at (N : Nat) (rs : List (List Int)) (a b : Int × Int) : wait N rs a b = (List.range N).any (waitAt rs a.1 a.2 b.1 b.2) := by
  unfold wait waitAt
  by_cases h : a.2 = b.1
  · simp [h]
  · simp [h]
theorem wait_yes {N : Nat} {rs : List (List Int)} {a b : Int × Int} {k : Nat} (hk : k < N) (h : waitAt rs a.1 a.2 b.1 b.2 k = true) : wait N rs a b = true := by
  rw [wait_at, List.any_eq_true]
  exact ⟨k, List.mem_range.2 hk, h⟩
theorem wait_no {N : Nat} {rs : List (List Int)} {a b : Int × Int} (h : ∀ k, k < N → waitAt rs a.1 a.2 b.1 b.2 k = false) : wait N rs a b = false := by
  rw [wait_at, List.any_eq_false]
  intro k hk
  rw [h k (List.mem_range.1 hk)]
  simp
end Route
set_option maxHeartbeats 4000000 in
set_option maxRecDepth 100000 in
theorem rwaits1_any {w : World} {p : PV} {es : List (Int × Int)} {ws : List Int} {rs : List (List Int)} {n : Nat} (h : PlN w p es ws rs) (hm : MayN p es rs n) (a1 a2 b1 b2 : Int) (h1 : 0 ≤ a1 ∧ a1 < (n : Int)) (h2 : 0 ≤ a2 ∧ a2 < (n : Int)) :
    Calls Try.prog 47 #[p.val, .agg #[.int .i64 a1, .int .i64 a2], .agg #[.int .i64 b1, .int .i64 b2]] w fun e w' => e = .returned (.bool (Route.wait n rs (a1, a2) (b1, b2))) ∧ Below w.heap.size w w' := by
  have HS := wait_start w p a1 a2 b1 b2
  have HSx : Hid _ := HS
  have HP : Hid (PlN w p es ws rs) := h
  have HM : Hid (MayN p es rs n) := hm
  have hn : p.nodes = (n : Int) := hm.nodes
  have hn6 := hm.two
  clear HS h hm
  obtain ⟨N0, lanes, room, queue, rounds, every, bag, start, ea, en, ec, wa, wn, wc, na, nn, nc⟩ := p
  simp only at hn
  subst hn
  simp only [PV.val, PV.obj] at HSx ⊢
  go_enter Try.func47, Try.ntmps47
  go_wp2_with fail
  obtain ⟨hX, hB, ca1, ca2, cb1, cb2⟩ := HSx.out _ rfl
  have hg0 := hX.c0
  have hg10 := hX.c10
  have HB : Hid _ := hB
  simp only at hg0 hg10
  clear HSx hX hB
  generalize World.alloc _ _ = W at HB ca1 ca2 cb1 cb2 hg0 hg10 ⊢
  obtain ⟨gp, hgp⟩ : ∃ g, w.heap.size = g := ⟨_, rfl⟩
  have HPW : Hid (PlN W ⟨(n : Int), lanes, room, queue, rounds, every, bag, start, ea, en, ec, wa, wn, wc, na, nn, nc⟩ es ws rs) := HP.out.below HB.out
  have HG : Hid (w.heap.size = gp) := hgp
  rw [hgp] at HB ca1 ca2 cb1 cb2 hg0 hg10 ⊢
  obtain ⟨ga, hga⟩ : ∃ g, gp + 1 = g := ⟨_, rfl⟩
  rw [hga] at ca1 ca2 cb1 cb2 ⊢
  obtain ⟨gb, hgb⟩ : ∃ g, ga + 1 = g := ⟨_, rfl⟩
  rw [hgb] at cb1 cb2 ⊢
  clear hgp hga hgb HP
  go_loopw [7] (fun i wr => ∃ k : Nat, k ≤ n ∧ i = .int .i64 k ∧ (∀ j, j < k → Route.waitAt rs a1 a2 b1 b2 j = false) ∧ Below W.heap.size W wr) (fun i _ => n - (intOf i).toNat)
  case atStart => exact ⟨0, Nat.zero_le _, rfl, fun j hj => by omega, Below.refl _ _⟩
  case round =>
    obtain ⟨k, hk, rfl, hno, hBr⟩ := hrel
    have HN : Hid (∀ j, j < k → Route.waitAt rs a1 a2 b1 b2 j = false) := hno
    have HBr : Hid (Below W.heap.size W wr) := hBr
    have hr0 := (hBr.cell (p := ⟨gp, 0, none⟩) (cell_lt hg0)).trans hg0
    clear hno
    by_cases hkn : k < n
    · have hkI : (k : Int) < (n : Int) := by omega
      obtain ⟨b, off, rb, ro, rc, e1, e2, x1, x2, _⟩ := (HPW.out.below hBr).next HM.out h1 (u := (k : Int)) ⟨by omega, hkI⟩
      obtain ⟨b', off', rb', ro', rc', e1', _, y1, y2, _⟩ := (HPW.out.below hBr).next HM.out h2 (u := (k : Int)) ⟨by omega, hkI⟩
      simp only at e1 e2 e1'
      subst e1 e2
      cases e1'
      obtain ⟨z1, hz1⟩ : ∃ z, Route.nx rs a1 (k : Int) = z := ⟨_, rfl⟩
      obtain ⟨z2, hz2⟩ : ∃ z, Route.nx rs a2 (k : Int) = z := ⟨_, rfl⟩
      rw [hz1] at x2
      rw [hz2] at y2
      rw [Int.toNat_natCast] at x2 y2
      have HZ : Hid (Route.nx rs a1 (k : Int) = z1 ∧ Route.nx rs a2 (k : Int) = z2) := ⟨hz1, hz2⟩
      have r10 := (hBr.cell (p := ⟨gp, 10, none⟩) (cell_lt hg10)).trans hg10
      have ra1 := (hBr.cell (p := ⟨ga, 0, none⟩) (cell_lt ca1)).trans ca1
      have ra2 := (hBr.cell (p := ⟨ga, 1, none⟩) (cell_lt ca2)).trans ca2
      have rb1 := (hBr.cell (p := ⟨gb, 0, none⟩) (cell_lt cb1)).trans cb1
      have rb2 := (hBr.cell (p := ⟨gb, 1, none⟩) (cell_lt cb2)).trans cb2
      have hne := Since.any wr
      have d0 := fun m : Since wr => m.cell r10
      have d1 := fun m : Since wr => m.cell ra1
      have d2 := fun m : Since wr => m.cell ra2
      have d3 := fun m : Since wr => m.cell rb1
      have d4 := fun m : Since wr => m.cell rb2
      have d5 := fun m : Since wr => m.cell x1
      have d6 := fun m : Since wr => m.cell x2
      have d7 := fun m : Since wr => m.cell y1
      have d8 := fun m : Since wr => m.cell y2
      clear hz1 hz2 x1 x2 y1 y2 r10 ra1 ra2 rb1 rb2 hBr
      rcases (Classical.em (a2 = b1)).symm with t0 | t0
      · have g0 : (a2 == b1) = false := by simpa using t0
        have HF : Hid (Route.waitAt rs a1 a2 b1 b2 k = false) := by
          show _ = _
          unfold Route.waitAt
          rw [HZ.out.1, HZ.out.2]
          rw [decide_eq_false t0]
          rfl
        clear t0
        go_wp2_with fail
        refine region_since (u := wr) (by kernel_rfl) (by kernel_rfl) (Below.refl _ _) ?_
        repeat (go_big_quiet_step (first | fail))
        refine wpQuiet_nil ?_
        intro _ hw'
        obtain ⟨nq, hw2⟩ := hw'
        subst hw2
        have HBq : Hid (Below W.heap.size W nq.w) := HBr.out.trans (nq.h.mono HBr.out.size)
        clear hne d0 d1 d2 d3 d4 d5 d6 d7 d8
        go_wp2_with fail
        go_roundw
        case rel =>
          have R : ∀ j, j < k + 1 → Route.waitAt rs a1 a2 b1 b2 j = false := fun j hj => by
            by_cases e : j = k
            · subst e; exact HF.out
            · exact HN.out j (by omega)
          first | exact ⟨k + 1, by omega, by go_num, R, HBq.out⟩ | ((repeat apply Exists.intro); exact ⟨⟨k + 1, by omega, by go_num, R, HBq.out⟩, rfl⟩)
        case measure => simp [intOf]; omega
      have g0 : (a2 == b1) = true := by simpa using t0
      rcases (Classical.em ((k : Int) ≠ a2)).symm with t1 | t1
      · have g1 : ((k : Int) != a2) = false := by simpa using t1
        have HF : Hid (Route.waitAt rs a1 a2 b1 b2 k = false) := by
          show _ = _
          unfold Route.waitAt
          rw [HZ.out.1, HZ.out.2]
          rw [decide_eq_true t0, decide_eq_false t1]
          rfl
        clear t0 t1
        go_wp2_with fail
        refine region_since (u := wr) (by kernel_rfl) (by kernel_rfl) (Below.refl _ _) ?_
        repeat (go_big_quiet_step (first | fail))
        refine wpQuiet_nil ?_
        intro _ hw'
        obtain ⟨nq, hw2⟩ := hw'
        subst hw2
        have HBq : Hid (Below W.heap.size W nq.w) := HBr.out.trans (nq.h.mono HBr.out.size)
        clear hne d0 d1 d2 d3 d4 d5 d6 d7 d8
        go_wp2_with fail
        go_roundw
        case rel =>
          have R : ∀ j, j < k + 1 → Route.waitAt rs a1 a2 b1 b2 j = false := fun j hj => by
            by_cases e : j = k
            · subst e; exact HF.out
            · exact HN.out j (by omega)
          first | exact ⟨k + 1, by omega, by go_num, R, HBq.out⟩ | ((repeat apply Exists.intro); exact ⟨⟨k + 1, by omega, by go_num, R, HBq.out⟩, rfl⟩)
        case measure => simp [intOf]; omega
      have g1 : ((k : Int) != a2) = true := by simpa using t1
      rcases (Classical.em ((k : Int) ≠ a1)).symm with t2 | t2
      · have g2 : ((k : Int) != a1) = false := by simpa using t2
        have HF : Hid (Route.waitAt rs a1 a2 b1 b2 k = false) := by
          show _ = _
          unfold Route.waitAt
          rw [HZ.out.1, HZ.out.2]
          rw [decide_eq_true t0, decide_eq_true t1, decide_eq_false t2]
          rfl
        clear t0 t1 t2
        go_wp2_with fail
        refine region_since (u := wr) (by kernel_rfl) (by kernel_rfl) (Below.refl _ _) ?_
        repeat (go_big_quiet_step (first | fail))
        refine wpQuiet_nil ?_
        intro _ hw'
        obtain ⟨nq, hw2⟩ := hw'
        subst hw2
        have HBq : Hid (Below W.heap.size W nq.w) := HBr.out.trans (nq.h.mono HBr.out.size)
        clear hne d0 d1 d2 d3 d4 d5 d6 d7 d8
        go_wp2_with fail
        go_roundw
        case rel =>
          have R : ∀ j, j < k + 1 → Route.waitAt rs a1 a2 b1 b2 j = false := fun j hj => by
            by_cases e : j = k
            · subst e; exact HF.out
            · exact HN.out j (by omega)
          first | exact ⟨k + 1, by omega, by go_num, R, HBq.out⟩ | ((repeat apply Exists.intro); exact ⟨⟨k + 1, by omega, by go_num, R, HBq.out⟩, rfl⟩)
        case measure => simp [intOf]; omega
      have g2 : ((k : Int) != a1) = true := by simpa using t2
      rcases (Classical.em (z1 = a2)).symm with t3 | t3
      · have g3 : (z1 == a2) = false := by simpa using t3
        have HF : Hid (Route.waitAt rs a1 a2 b1 b2 k = false) := by
          show _ = _
          unfold Route.waitAt
          rw [HZ.out.1, HZ.out.2]
          rw [decide_eq_true t0, decide_eq_true t1, decide_eq_true t2, decide_eq_false t3]
          rfl
        clear t0 t1 t2 t3
        go_wp2_with fail
        refine region_since (u := wr) (by kernel_rfl) (by kernel_rfl) (Below.refl _ _) ?_
        repeat (go_big_quiet_step (first | fail))
        refine wpQuiet_nil ?_
        intro _ hw'
        obtain ⟨nq, hw2⟩ := hw'
        subst hw2
        have HBq : Hid (Below W.heap.size W nq.w) := HBr.out.trans (nq.h.mono HBr.out.size)
        clear hne d0 d1 d2 d3 d4 d5 d6 d7 d8
        go_wp2_with fail
        go_roundw
        case rel =>
          have R : ∀ j, j < k + 1 → Route.waitAt rs a1 a2 b1 b2 j = false := fun j hj => by
            by_cases e : j = k
            · subst e; exact HF.out
            · exact HN.out j (by omega)
          first | exact ⟨k + 1, by omega, by go_num, R, HBq.out⟩ | ((repeat apply Exists.intro); exact ⟨⟨k + 1, by omega, by go_num, R, HBq.out⟩, rfl⟩)
        case measure => simp [intOf]; omega
      have g3 : (z1 == a2) = true := by simpa using t3
      rcases (Classical.em (z2 = b2)).symm with t4 | t4
      · have g4 : (z2 == b2) = false := by simpa using t4
        have HF : Hid (Route.waitAt rs a1 a2 b1 b2 k = false) := by
          show _ = _
          unfold Route.waitAt
          rw [HZ.out.1, HZ.out.2]
          rw [decide_eq_true t0, decide_eq_true t1, decide_eq_true t2, decide_eq_true t3, decide_eq_false t4]
          rfl
        clear t0 t1 t2 t3 t4
        go_wp2_with fail
        refine region_since (u := wr) (by kernel_rfl) (by kernel_rfl) (Below.refl _ _) ?_
        repeat (go_big_quiet_step (first | fail))
        refine wpQuiet_nil ?_
        intro _ hw'
        obtain ⟨nq, hw2⟩ := hw'
        subst hw2
        have HBq : Hid (Below W.heap.size W nq.w) := HBr.out.trans (nq.h.mono HBr.out.size)
        clear hne d0 d1 d2 d3 d4 d5 d6 d7 d8
        go_wp2_with fail
        go_roundw
        case rel =>
          have R : ∀ j, j < k + 1 → Route.waitAt rs a1 a2 b1 b2 j = false := fun j hj => by
            by_cases e : j = k
            · subst e; exact HF.out
            · exact HN.out j (by omega)
          first | exact ⟨k + 1, by omega, by go_num, R, HBq.out⟩ | ((repeat apply Exists.intro); exact ⟨⟨k + 1, by omega, by go_num, R, HBq.out⟩, rfl⟩)
        case measure => simp [intOf]; omega
      have g4 : (z2 == b2) = true := by simpa using t4
      have HT : Hid (Route.wait nn rs (a1, a2) (b1, b2) = true) := Route.wait_yes hkn (by
        unfold Route.waitAt
        rw [HZ.out.1, HZ.out.2]
        rw [decide_eq_true t0, decide_eq_true t1, decide_eq_true t2, decide_eq_true t3, decide_eq_true t4]
        rfl)
      clear t0 t1 t2 t3 t4
      go_wp2_with fail
      refine region_since (u := wr) (by kernel_rfl) (by kernel_rfl) (Below.refl _ _) ?_
      repeat (go_big_quiet_step (first | fail))
      refine wpQuiet_nil ?_
      intro _ hw'
      obtain ⟨nq, hw2⟩ := hw'
      subst hw2
      have HBq : Hid (Below W.heap.size W nq.w) := HBr.out.trans (nq.h.mono HBr.out.size)
      clear hne d0 d1 d2 d3 d4 d5 d6 d7 d8
      go_wp2_with fail
      go_ret
      rw [HG.out, HT.out]
      exact ⟨rfl, HB.out.trans (HBq.out.mono (by rw [← HG.out]; exact HB.out.size))⟩
    · obtain rfl : k = n := by omega
      have HF : Hid (Route.wait k rs (a1, a2) (b1, b2) = false) := Route.wait_no (fun j hj => HN.out j hj)
      clear hBr
      go_wp2_with fail
      go_ret
      rw [HG.out, HF.out]
      exact ⟨rfl, HB.out.trans (HBr.out.mono (by rw [← HG.out]; exact HB.out.size))⟩
end Go.Proofs.Ytphaaolnmbadcaa
