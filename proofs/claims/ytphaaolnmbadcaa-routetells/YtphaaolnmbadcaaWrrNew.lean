/-
  Package wrr, as it landed: New, so far as it says whether there is a wheel. Conditions: none but that the slice leads to numbers.
-/
import Derived.Test.YtphaaolnmbadcaaRefPlanD
import Derived.Laws.CopyOwn
import Derived.Laws.CopyRow
import Derived.Deep.RegionWith
import Derived.RangeFuncRecord
namespace Go.Proofs.Ytphaaolnmbadcaa
open Go.ChangeShapes Go.WideShapes Go.ChangeAt Go.RowKit
set_option linter.unusedVariables false

theorem wnone_any (z : Int) (w : World) :
    Calls Try.prog 72 #[.int .i64 z] w fun e w' => e = .returned (.bool (!Plan.bnd z 1 5)) ∧ w' = w := by
  by_cases h1 : 1 ≤ z
  · by_cases h2 : z ≤ 5
    · have e : (!Plan.bnd z 1 5) = false := by unfold Plan.bnd; simp [h1, h2]
      have h1' : ¬ z < 1 := by omega
      have h2' : ¬ 5 < z := by omega
      rw [e]
      go_enter Try.func72, Try.ntmps72
      go_wp2_with fail
      go_ret
      exact ⟨rfl, rfl⟩
    · have e : (!Plan.bnd z 1 5) = true := by unfold Plan.bnd; simp [h2]
      have h1' : ¬ z < 1 := by omega
      have h2' : 5 < z := by omega
      rw [e]
      go_enter Try.func72, Try.ntmps72
      go_wp2_with fail
      go_ret
      exact ⟨rfl, rfl⟩
  · have e : (!Plan.bnd z 1 5) = true := by unfold Plan.bnd; simp [h1]
    have h1' : z < 1 := by omega
    rw [e]
    go_enter Try.func72, Try.ntmps72
    go_wp2_with fail
    go_ret
    exact ⟨rfl, rfl⟩
theorem zr_at {w : World} {b off n : Nat} {l : List Int} (h : Zr w (some ⟨b, off, none⟩) n l) (k : Nat) (hk : k < n) : w.cell? ⟨b, off + k, none⟩ = some (.int .i64 (l.getD k 0)) := by
  obtain ⟨b', off', e, hc⟩ := h.at hk
  cases e
  exact hc
theorem setrow_below (w : World) (g B : Nat) (xs : Array Value) (hB : B ≤ g) : Below B w (w.drew.setRow g xs) := below_setRow (Below.refl B w).drew hB xs
theorem all_bnd {ws : List Int} (h : ∀ j, j < ws.length → Plan.bnd (ws.getD j 0) 1 5 = true) : ws.all (fun x => Plan.bnd x 1 5) = true := by
  rw [List.all_eq_true]
  intro x hx
  obtain ⟨k, hk, rfl⟩ := List.getElem_of_mem hx
  have := h k hk
  rw [List.getD_eq_getElem?_getD, List.getElem?_eq_getElem hk] at this
  exact this
theorem not_all_bnd {ws : List Int} {k : Nat} (hk : k < ws.length) (h : Plan.bnd (ws.getD k 0) 1 5 = false) : ws.all (fun x => Plan.bnd x 1 5) = false := by
  rw [List.all_eq_false]
  refine ⟨ws.getD k 0, ?_, by rw [h]; exact Bool.false_ne_true⟩
  rw [List.getD_eq_getElem?_getD, List.getElem?_eq_getElem hk]
  exact List.getElem_mem hk
set_option maxHeartbeats 2000000 in
set_option maxRecDepth 100000 in
theorem widx_any {w : World} {a : Option Addr} {n c : Nat} {ws : List Int} (h : Zr w a n ws) (hn : n ≤ 17592186044416) :
    Calls Try.prog 60 #[.slice a n c, .func (Fn.func 72) #[] #[]] w fun e w' => ∃ z : Int, e = .returned (.int .i64 z) ∧ decide (0 ≤ z) = !(ws.all (fun x => Plan.bnd x 1 5)) ∧ w' = w := by
  have HZ : Hid (Zr w a n ws) := h
  have hln := h.1
  clear h
  go_enter Try.func60, Try.ntmps60
  go_wp2_with fail
  go_loopw [5, 8] (fun _ i wr => ∃ k : Nat, k ≤ n ∧ i = .int .i64 k ∧ (∀ j, j < k → Plan.bnd (ws.getD j 0) 1 5 = true) ∧ wr = w) (fun _ i _ => n - (intOf i).toNat)
  case atStart => exact ⟨0, Nat.zero_le _, rfl, fun j hj => by omega, rfl⟩
  case round =>
    obtain ⟨k, hk, rfl, hno, rfl⟩ := hrel
    have HN : Hid (∀ j, j < k → Plan.bnd (ws.getD j 0) 1 5 = true) := hno
    clear hno
    by_cases hkn : k < n
    · obtain ⟨b, off, ha, hc⟩ := HZ.out.at hkn
      subst ha
      obtain ⟨y, hy⟩ : ∃ y, ws.getD k 0 = y := ⟨_, rfl⟩
      have HY : Hid (ws.getD k 0 = y) := hy
      rw [hy] at hc
      clear hy
      cases hb : Plan.bnd y 1 5 with
      | true =>
        go_wp2_with (go_at_call 72; refine (wnone_any _ _).mono ?_; rintro e w' ⟨rfl, rfl⟩)
        go_roundw
        case rel =>
          have R : ∀ j, j < k + 1 → Plan.bnd (ws.getD j 0) 1 5 = true := fun j hj => by
            by_cases e : j = k
            · rw [e, HY.out]; exact hb
            · exact HN.out j (by omega)
          first | exact ⟨k + 1, by omega, by go_num, R, rfl⟩ | exact ⟨k + 1, by omega, by go_num, R, trivial⟩ | ((repeat apply Exists.intro); exact ⟨⟨k + 1, by omega, by go_num, R, rfl⟩, rfl⟩)
        case measure => simp [intOf]; omega
      | false =>
        have HF : Hid (ws.all (fun x => Plan.bnd x 1 5) = false) := not_all_bnd (k := k) (by omega) (by rw [HY.out]; exact hb)
        go_wp2_with (go_at_call 72; refine (wnone_any _ _).mono ?_; rintro e w' ⟨rfl, rfl⟩)
        go_ret
        exact ⟨(k : Int), rfl, by rw [HF.out]; exact decide_eq_true (by omega), rfl⟩
    · obtain rfl : k = n := by omega
      have HF : Hid (ws.all (fun x => Plan.bnd x 1 5) = true) := all_bnd (fun j hj => HN.out j (by omega))
      go_wp2_with fail
      go_ret
      exact ⟨-1, rfl, by rw [HF.out]; rfl, rfl⟩
theorem wcont_any {w : World} {a : Option Addr} {n c : Nat} {ws : List Int} (h : Zr w a n ws) (hn : n ≤ 17592186044416) :
    Calls Try.prog 42 #[.slice a n c, .func (Fn.func 72) #[] #[]] w fun e w' => e = .returned (.bool (!(ws.all (fun x => Plan.bnd x 1 5)))) ∧ w' = w := by
  have HZ : Hid (Zr w a n ws) := h
  clear h
  go_enter Try.func42, Try.ntmps42
  go_wp2_with (go_at_call 60; refine (widx_any HZ.out hn).mono ?_; rintro e w' ⟨z, rfl, hz, rfl⟩; have HD : Hid (decide (0 ≤ z) = !(ws.all (fun x => Plan.bnd x 1 5))) := hz; clear hz)
  go_ret
  exact ⟨by rw [← HD.out]; rfl, rfl⟩
set_option maxHeartbeats 1000000 in
set_option maxRecDepth 100000 in
theorem clone_zr {w : World} {b off n c : Nat} {l : List Int} (h : Zr w (some ⟨b, off, none⟩) n l) (hn : n ≤ 17592186044416) :
    Calls Try.prog 38 #[.slice (some ⟨b, off, none⟩) n c] w fun e w' => ∃ v, e = .returned v ∧ w'.ownsRow w.heap.size 3 1 v l.length (zcells l) ∧ Below w.heap.size w w' := by
  have q29 : ∀ (w : World) (a : Option Addr) (n c n' c' : Nat), (binOp .eql 23 (.slice a n c) (.slice none n' c')).run Try.prog w = .ok (.bool a.isNone) w := fun w a n c n' c' => Lib.run_eql_slice_nil w _ _ a n c n' c' Try.underlying23
  have HZ : Hid (Zr w (some ⟨b, off, none⟩) n l) := h
  clear h
  have HO : Hid ((w.alloc (.cells #[] 3)).ownsRow w.heap.size 3 1 (.slice (some ⟨w.heap.size, 0, none⟩) 0 0) 0 []) := World.ownsRow_made (base := w.heap.size) (e := 3) (size := 1) w #[] 0 (Nat.le_refl _) (by unfold maxLen; omega) (by simp)
  go_enter Try.func38, Try.ntmps38
  go_wp2_with (at_builtin; refine wpList_append_z rfl (.tmp 5) (.tmp 6) rfl w.heap.size (.slice (some ⟨w.heap.size, 0, none⟩) 0 0) [] rfl HO.out (by simp) (some ⟨b, off, none⟩) n c l rfl (HZ.out.below (fresh _ _)) (fun e => by cases e) (by simp; omega) l rfl ?_; intro v' w2 hown hB2)
  go_ret
  exact ⟨_, rfl, hown, (fresh _ _).trans hB2⟩
/-- a store of a whole row of the call's own -/
theorem fill_any {w : World} {q g1 g2 n c1 B : Nat} {l : List Int} {cur : Array Value} (h0 : w.cell? ⟨q, 0, none⟩ = some (.slice (some ⟨g1, 0, none⟩) n c1)) (h1 : w.cell? ⟨q, 1, none⟩ = some (.slice (some ⟨g2, 0, none⟩) n n)) (hz : Zr w (some ⟨g1, 0, none⟩) n l) (hg : w.heap[g2]? = some (.cells cur 3 (0, 0))) (hcur : cur.size = n) (hB : B ≤ g2) :
    Calls Try.prog 73 #[.pointer (some ⟨q, 0, none⟩)] w fun e w' => e = .returned (.tuple #[]) ∧ Below B w w' := by
  have hl := hz.1
  have hsz : (Try.prog.info? 3).map (·.size) = some 1 := by kernel_rfl
  have hcp := run_copy_row (P := Try.prog) w.drew 23 23 3 3 g2 0 n n ⟨g1, 0, none⟩ n c1 cur 3 (zcells l) Try.underlying23 hsz hg (by rw [zcells_len, hl]; exact (Nat.min_self n).symm) (fun j v hv => by
    have hj : j < l.length := by
      have := (List.getElem?_eq_some_iff.1 hv).1
      rwa [zcells_len] at this
    rw [zcells_at hj] at hv
    rw [add_lit, ← hv]
    exact zr_at hz j (by omega)) (by rw [zcells_len, hl, hcur]; omega) (zcells_one l)
  rw [zcells_len, hl] at hcp
  obtain ⟨U, hU⟩ : ∃ U, w.drew.setRow g2 (cur.toList.take 0 ++ zcells l ++ cur.toList.drop (0 + n)).toArray = U := ⟨_, rfl⟩
  have HB : Hid (Below B w U) := by rw [← hU]; exact setrow_below w g2 B _ hB
  rw [hU] at hcp
  clear hU hz hg hcur hl hsz
  go_enter Try.func73, Try.ntmps73
  go_wp2_with fail
  go_region
  refine bodyPost_end (results_none rfl _ _ _) rfl ?_
  exact ⟨rfl, HB.out⟩
set_option maxHeartbeats 2000000 in
set_option maxRecDepth 100000 in
theorem wheel_any {w : World} {a : Option Addr} {n c : Nat} {ws : List Int} (h : Zr w a n ws) (hn : n ≤ 17592186044416) :
    Calls Try.prog 53 #[.slice a n c] w fun e w' => ∃ q : Option Addr, e = .returned (.pointer q) ∧ (q.isNone = !Plan.wsOk ws) ∧ Below w.heap.size w w' := by
  have HZ : Hid (Zr w a n ws) := h
  have hln := h.1
  clear h
  by_cases h1 : n < 1
  · have HB : Hid (Plan.wsOk ws = false) := by show _ = _; unfold Plan.wsOk; rw [hln]; simp; omega
    have h1' : (n : Int) < 1 := by omega
    go_enter Try.func53, Try.ntmps53
    go_wp2_with fail
    go_ret
    exact ⟨none, rfl, by rw [HB.out]; rfl, Below.refl _ _⟩
  · have h1' : ¬ (n : Int) < 1 := by omega
    by_cases h3 : 3 < n
    · have HB : Hid (Plan.wsOk ws = false) := by show _ = _; unfold Plan.wsOk; rw [hln]; simp; omega
      have h3' : (3 : Int) < n := by omega
      go_enter Try.func53, Try.ntmps53
      go_wp2_with fail
      go_ret
      exact ⟨none, rfl, by rw [HB.out]; rfl, Below.refl _ _⟩
    · have h3' : ¬ (3 : Int) < n := by omega
      have hn1 : 1 ≤ n := by omega
      obtain ⟨b, off, ha, _⟩ := HZ.out.at (k := 0) (by omega)
      subst ha
      cases hb : ws.all (fun x => Plan.bnd x 1 5) with
      | false =>
        have HB : Hid (Plan.wsOk ws = false) := by show _ = _; unfold Plan.wsOk; rw [hb]; rfl
        have HA : Hid (ws.all (fun x => Plan.bnd x 1 5) = false) := hb
        clear hb
        go_enter Try.func53, Try.ntmps53
        go_wp2_with (go_at_call 42; refine (wcont_any HZ.out hn).mono ?_; rintro e w' ⟨rfl, rfl⟩; rw [HA.out])
        go_ret
        exact ⟨none, rfl, by rw [HB.out]; rfl, Below.refl _ _⟩
      | true =>
        have HB : Hid (Plan.wsOk ws = true) := by show _ = _; unfold Plan.wsOk; rw [hb, hln]; simp; omega
        have HA : Hid (ws.all (fun x => Plan.bnd x 1 5) = true) := hb
        have hmk := run_make_row' (P := Try.prog) 23 3 (.int .i64 0) 8 Try.underlying23 infoI rfl .i64 .i64 n (by omega) (by omega)
        clear hb
        go_enter Try.func53, Try.ntmps53
        go_wp2_with (go_at_call 42; refine (wcont_any HZ.out hn).mono ?_; rintro e w' ⟨rfl, rfl⟩; rw [HA.out])
        go_region_with (go_at_call 38; refine (clone_zr (l := ws) (HZ.out.below (by first | exact (Below.refl _ _).drew | exact ((Below.refl _ _).drew.alloc (Nat.le_refl _) _) | exact ((fresh _ _).drew)) ) hn).mono ?_; rintro e w2 ⟨v2, rfl, hown2, hB2⟩; obtain ⟨a2, cap2, rfl, hz2, _, _, _, hg2⟩ := zr_of_owns hown2)
        all_goals
          obtain ⟨g, hg, hgl⟩ : ∃ g, a2 = some ⟨g, 0, none⟩ ∧ g < w2.heap.size := by
            rcases hg2 with ⟨_, e⟩ | ⟨g, h, _, h2⟩
            · rw [e] at hln; simp at hln; omega
            · exact ⟨g, h, h2⟩
          subst hg
          rw [hln] at hz2
          first
            | (have hbw : Below w'.heap.size w' w2 := (Below.refl _ w').drew.trans (hB2.mono (Nat.le_refl _))
               have HF : Hid (∀ W, W = (w2.alloc (.cells (madeCells #[.int .i64 0] n) 3)).alloc (.cells #[.slice (some ⟨g, 0, none⟩) n cap2, .slice (some ⟨w2.heap.size, 0, none⟩) n n, .int .i64 0] 90) → Calls Try.prog 73 #[.pointer (some ⟨w2.heap.size + 1, 0, none⟩)] W fun e W' => e = .returned (.tuple #[]) ∧ Below w'.heap.size w' W') := fun W hW => by
                 subst hW
                 refine (fill_any (g1 := g) (g2 := w2.heap.size) (n := n) (c1 := cap2) (l := ws) (cur := madeCells #[.int .i64 0] n) (B := w'.heap.size) (by simp) (by simp) ((hz2.below (fresh _ _)).below (fresh _ _)) ((Below.heap_alloc _ _ _ (by simp)).trans (World.alloc_heap_new w2 _)) (by simp [madeCells]) hbw.size).mono ?_
                 rintro e W' ⟨rfl, h⟩
                 exact ⟨rfl, ((hbw.alloc hbw.size _).alloc (Nat.le_trans hbw.size (by simp)) _).trans h⟩
               clear hz2 hown2 hB2 hbw hg2
               go_wp2_with (go_at_call 73; refine (HF.out _ rfl).mono ?_; rintro e w3 ⟨rfl, hB3⟩; have HB3 : Hid (Below w'.heap.size w' w3) := hB3; clear hB3)
               go_ret
               exact ⟨_, rfl, by rw [HB.out]; rfl, HB3.out⟩)
            | (have hmd : w2.heap[w'.heap.size]? = some (.cells (madeCells #[.int .i64 0] n) 3 (0, 0)) := (hB2.block w'.heap.size (by simp)).trans (World.alloc_heap_new w'.drew _)
               have hbw : Below w'.heap.size w' w2 := ((Below.refl _ w').drew.alloc (Nat.le_refl _) (.cells (madeCells #[.int .i64 0] n) 3)).trans (hB2.mono (by simp))
               have HF : Hid (∀ W, W = w2.alloc (.cells #[.slice (some ⟨g, 0, none⟩) n cap2, .slice (some ⟨w'.heap.size, 0, none⟩) n n, .int .i64 0] 90) → Calls Try.prog 73 #[.pointer (some ⟨w2.heap.size, 0, none⟩)] W fun e W' => e = .returned (.tuple #[]) ∧ Below w'.heap.size w' W') := fun W hW => by
                 subst hW
                 refine (fill_any (g1 := g) (g2 := w'.heap.size) (n := n) (c1 := cap2) (l := ws) (cur := madeCells #[.int .i64 0] n) (B := w'.heap.size) (by simp) (by simp) (hz2.below (fresh _ _)) ((Below.heap_alloc _ _ _ (by have := hB2.size; simp at this; omega)).trans hmd) (by simp [madeCells]) (Nat.le_refl _)).mono ?_
                 rintro e W' ⟨rfl, h⟩
                 exact ⟨rfl, (hbw.alloc hbw.size _).trans h⟩
               clear hmd hz2 hown2 hB2 hbw hg2
               go_wp2_with (go_at_call 73; refine (HF.out _ rfl).mono ?_; rintro e w3 ⟨rfl, hB3⟩; have HB3 : Hid (Below w'.heap.size w' w3) := hB3; clear hB3)
               go_ret
               exact ⟨_, rfl, by rw [HB.out]; rfl, HB3.out⟩)
            | (have hbw : Below w'.heap.size w' w2 := (Below.refl _ w').drew.trans (hB2.mono (Nat.le_refl _))
               have HF : Hid (∀ W, W = ((w2.alloc (.cells (madeCells #[.int .i64 0] n) 3)).alloc (.cells #[.slice (some ⟨g, 0, none⟩) n cap2, .slice (some ⟨w2.heap.size, 0, none⟩) n n, .int .i64 0] 90)).drew → Calls Try.prog 73 #[.pointer (some ⟨w2.heap.size + 1, 0, none⟩)] W fun e W' => e = .returned (.tuple #[]) ∧ Below w'.heap.size w' W') := fun W hW => by
                 subst hW
                 refine (fill_any (g1 := g) (g2 := w2.heap.size) (n := n) (c1 := cap2) (l := ws) (cur := madeCells #[.int .i64 0] n) (B := w'.heap.size) (by simp) (by simp) (((hz2.below (fresh _ _)).below (fresh _ _)).below (Below.refl _ _).drew) ((Below.heap_alloc _ _ _ (by simp)).trans (World.alloc_heap_new w2 _)) (by simp [madeCells]) hbw.size).mono ?_
                 rintro e W' ⟨rfl, h⟩
                 exact ⟨rfl, (((hbw.alloc hbw.size _).alloc (Nat.le_trans hbw.size (by simp)) _).drew).trans h⟩
               clear hz2 hown2 hB2 hbw hg2
               go_wp2_with (go_at_call 73; refine (HF.out _ rfl).mono ?_; rintro e w3 ⟨rfl, hB3⟩; have HB3 : Hid (Below w'.heap.size w' w3) := hB3; clear hB3)
               go_ret
               exact ⟨_, rfl, by rw [HB.out]; rfl, HB3.out⟩)
end Go.Proofs.Ytphaaolnmbadcaa
