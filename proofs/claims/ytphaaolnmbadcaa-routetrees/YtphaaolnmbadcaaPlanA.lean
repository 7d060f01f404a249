/-
  Package plan, as it landed: numbers held to their bounds, weights, rows of ways. Conditions: none but that the plan's rows are led to.
-/
import Derived.Test.YtphaaolnmbadcaaWrrNew
import Derived.Test.YtphaaolnmbadcaaRefPlanE
namespace Go.Proofs.Ytphaaolnmbadcaa
open Go.ChangeShapes Go.WideShapes Go.ChangeAt Go.RowKit
set_option linter.unusedVariables false

theorem within_any (n lo hi : Int) (w : World) :
    Calls Try.prog 43 #[.int .i64 n, .int .i64 lo, .int .i64 hi] w fun e w' => e = .returned (.bool (Plan.bnd n lo hi)) ∧ w' = w := by
  by_cases h1 : lo ≤ n
  · by_cases h2 : n ≤ hi
    · have e : Plan.bnd n lo hi = true := by unfold Plan.bnd; simp [h1, h2]
      rw [e]
      go_enter Try.func43, Try.ntmps43
      go_wp2_with fail
      go_ret
      exact ⟨rfl, rfl⟩
    · have e : Plan.bnd n lo hi = false := by unfold Plan.bnd; simp [h2]
      rw [e]
      go_enter Try.func43, Try.ntmps43
      go_wp2_with fail
      go_ret
      exact ⟨rfl, rfl⟩
  · have e : Plan.bnd n lo hi = false := by unfold Plan.bnd; simp [h1]
    rw [e]
    go_enter Try.func43, Try.ntmps43
    go_wp2_with fail
    go_ret
    exact ⟨rfl, rfl⟩
set_option maxHeartbeats 2000000 in
set_option maxRecDepth 100000 in
theorem numbers_any (w : World) (p : PV) :
    Calls Try.prog 34 #[p.val] w fun e w' => e = .returned (.bool (Plan.fine p.num)) ∧ Below w.heap.size w w' := by
  have HX : Hid (Bxd (w.alloc p.obj) w.heap.size p) := bxd_new w p
  have HW : Hid (Below w.heap.size w (w.alloc p.obj)) := fresh _ _
  obtain ⟨N, lanes, room, queue, rounds, every, bag, start, ea, en, ec, wa, wn, wc, na, nn, nc⟩ := p
  simp only [PV.val, PV.obj, PV.num] at HX HW ⊢
  have HF : Hid (Plan.fine ⟨N, lanes, room, queue, rounds, every, bag⟩ = (Plan.bnd N 2 6 && Plan.bnd lanes 1 3 && Plan.bnd room 1 8 && Plan.bnd queue 1 8 && Plan.bnd rounds 1 4 && Plan.bnd every 1 8 && Plan.bnd bag 1 64)) := rfl
  rw [HF.out]
  clear HF
  go_enter Try.func34, Try.ntmps34
  go_wp2_with (go_at_call 43; refine (within_any _ _ _ _).mono ?_; rintro e w' ⟨rfl, rfl⟩)
  all_goals (go_ret; exact ⟨by simp [*], HW.out⟩)
theorem isnone_any (m : Nat) (ra : Option Addr) (rc b : Nat) (N : Int) (w : World) (hc : w.cell? ⟨b, 0, none⟩ = some (.int .i64 N)) :
    Calls Try.prog 54 #[.slice ra m rc, .pointer (some ⟨b, 0, none⟩)] w fun e w' => e = .returned (.bool (!decide ((m : Int) = N))) ∧ w' = w := by
  by_cases h : (m : Int) = N
  · have h' : ((m : Int) != N) = false := by simpa using h
    rw [decide_eq_true h]
    clear h
    go_enter Try.func54, Try.ntmps54
    go_wp2_with fail
    go_ret
    exact ⟨rfl, rfl⟩
  · have h' : ((m : Int) != N) = true := by simpa using h
    rw [decide_eq_false h]
    clear h
    go_enter Try.func54, Try.ntmps54
    go_wp2_with fail
    go_ret
    exact ⟨rfl, rfl⟩
namespace Plan
theorem all_rows {ns : List Nat} {N : Int} (h : ∀ j, j < ns.length → (ns.getD j 0 : Int) = N) : ns.all (fun n => decide ((n : Int) = N)) = true := by
  rw [List.all_eq_true]
  intro x hx
  obtain ⟨j, hj, rfl⟩ := List.getElem_of_mem hx
  have := h j hj
  rw [List.getD_eq_getElem?_getD, List.getElem?_eq_getElem hj] at this
  exact decide_eq_true this
theorem not_all_rows {ns : List Nat} {N : Int} {k : Nat} (hk : k < ns.length) (h : ¬ (ns.getD k 0 : Int) = N) : ns.all (fun n => decide ((n : Int) = N)) = false := by
  rw [List.all_eq_false]
  refine ⟨ns.getD k 0, ?_, by simpa using h⟩
  rw [List.getD_eq_getElem?_getD, List.getElem?_eq_getElem hk]
  exact List.getElem_mem _
end Plan
set_option maxHeartbeats 2000000 in
set_option maxRecDepth 100000 in
theorem nidx_any {w : World} {a : Option Addr} {n c b : Nat} {ns : List Nat} {N : Int} (h : Lr w a n ns) (hn : n ≤ 8796093022208) (hb : w.cell? ⟨b, 0, none⟩ = some (.int .i64 N)) :
    Calls Try.prog 74 #[.slice a n c, .func (Fn.func 54) #[] #[.pointer (some ⟨b, 0, none⟩)]] w fun e w' => ∃ z : Int, e = .returned (.int .i64 z) ∧ decide (0 ≤ z) = !(ns.all (fun n => decide ((n : Int) = N))) ∧ w' = w := by
  have HZ : Hid (Lr w a n ns) := h
  have HC : Hid (w.cell? ⟨b, 0, none⟩ = some (.int .i64 N)) := hb
  have hln := h.1
  clear h hb
  go_enter Try.func74, Try.ntmps74
  go_wp2_with fail
  go_loopw [5, 8] (fun _ i wr => ∃ k : Nat, k ≤ n ∧ i = .int .i64 k ∧ (∀ j, j < k → (ns.getD j 0 : Int) = N) ∧ wr = w) (fun _ i _ => n - (intOf i).toNat)
  case atStart => exact ⟨0, Nat.zero_le _, rfl, fun j hj => by omega, rfl⟩
  case round =>
    obtain ⟨k, hk, rfl, hno, rfl⟩ := hrel
    have HN : Hid (∀ j, j < k → (ns.getD j 0 : Int) = N) := hno
    clear hno
    by_cases hkn : k < n
    · obtain ⟨b2, off, ra, rc, ha, hc, hlc, hrm, _⟩ := HZ.out.at hkn
      subst ha
      obtain ⟨m, hm⟩ : ∃ m, ns.getD k 0 = m := ⟨_, rfl⟩
      have HY : Hid (ns.getD k 0 = m) := hm
      rw [hm] at hc hlc
      clear hm
      cases hb : decide ((m : Int) = N) with
      | true =>
        have hd : (m : Int) = N := of_decide_eq_true hb
        have HD : Hid ((m : Int) = N) := hd
        clear hd
        go_wp2_with (go_at_call 54; refine (isnone_any m ra rc b N _ HC.out).mono ?_; rintro e w' ⟨rfl, rfl⟩; rw [hb])
        go_roundw
        case rel =>
          have R : ∀ j, j < k + 1 → (ns.getD j 0 : Int) = N := fun j hj => by
            by_cases e : j = k
            · rw [e, HY.out]; exact HD.out
            · exact HN.out j (by omega)
          first | exact ⟨k + 1, by omega, by go_num, R, rfl⟩ | exact ⟨k + 1, by omega, by go_num, R, trivial⟩ | ((repeat apply Exists.intro); exact ⟨⟨k + 1, by omega, by go_num, R, rfl⟩, rfl⟩)
        case measure => simp [intOf]; omega
      | false =>
        have HF : Hid (ns.all (fun n => decide ((n : Int) = N)) = false) := Plan.not_all_rows (k := k) (by omega) (by rw [HY.out]; exact of_decide_eq_false hb)
        go_wp2_with (go_at_call 54; refine (isnone_any m ra rc b N _ HC.out).mono ?_; rintro e w' ⟨rfl, rfl⟩; rw [hb])
        go_ret
        exact ⟨(k : Int), rfl, by rw [HF.out]; exact decide_eq_true (by omega), rfl⟩
    · obtain rfl : k = n := by omega
      have HF : Hid (ns.all (fun n => decide ((n : Int) = N)) = true) := Plan.all_rows (fun j hj => HN.out j (by omega))
      go_wp2_with fail
      go_ret
      exact ⟨-1, rfl, by rw [HF.out]; rfl, rfl⟩
theorem ncont_any {w : World} {a : Option Addr} {n c b : Nat} {ns : List Nat} {N : Int} (h : Lr w a n ns) (hn : n ≤ 8796093022208) (hb : w.cell? ⟨b, 0, none⟩ = some (.int .i64 N)) :
    Calls Try.prog 55 #[.slice a n c, .func (Fn.func 54) #[] #[.pointer (some ⟨b, 0, none⟩)]] w fun e w' => e = .returned (.bool (!(ns.all (fun n => decide ((n : Int) = N))))) ∧ w' = w := by
  have HZ : Hid (Lr w a n ns) := h
  have HC : Hid (w.cell? ⟨b, 0, none⟩ = some (.int .i64 N)) := hb
  clear h hb
  go_enter Try.func55, Try.ntmps55
  go_wp2_with (go_at_call 74; refine (nidx_any HZ.out hn HC.out).mono ?_; rintro e w' ⟨z, rfl, hz, rfl⟩; have HD : Hid (decide (0 ≤ z) = !(ns.all (fun n => decide ((n : Int) = N)))) := hz; clear hz)
  go_ret
  exact ⟨by rw [← HD.out]; rfl, rfl⟩
set_option maxHeartbeats 2000000 in
set_option maxRecDepth 100000 in
theorem next_any {w : World} {p : PV} {es : List (Int × Int)} {ws : List Int} {ns : List Nat} (h : Pl w p es ws ns) :
    Calls Try.prog 37 #[p.val] w fun e w' => e = .returned (.bool (decide ((ns.length : Int) = p.nodes) && ns.all (fun n => decide ((n : Int) = p.nodes)))) ∧ Below w.heap.size w w' := by
  have HX : Hid (Bxd (w.alloc p.obj) w.heap.size p) := bxd_new w p
  have HW : Hid (Below w.heap.size w (w.alloc p.obj)) := fresh _ _
  have HN : Hid (Lr w p.na p.nn ns) := h.hn
  have hnb := h.nb
  have hnn := h.hn.1
  clear h
  obtain ⟨N, lanes, room, queue, rounds, every, bag, start, ea, en, ec, wa, wn, wc, na, nn, nc⟩ := p
  simp only [PV.val, PV.obj] at HX HW HN hnb hnn ⊢
  rw [hnn]
  obtain ⟨t, ht⟩ : ∃ t, ns.all (fun n => decide ((n : Int) = N)) = t := ⟨_, rfl⟩
  rw [ht]
  have HT : Hid (ns.all (fun n => decide ((n : Int) = N)) = t) := ht
  clear ht
  by_cases hq : (nn : Int) = N
  · have hq' : ((nn : Int) == N) = true := by simpa using hq
    rw [decide_eq_true hq]
    clear hq
    go_enter Try.func37, Try.ntmps37
    go_wp2_with (go_at_call 55; refine (ncont_any (b := w.heap.size) (N := N) (HN.out.below HW.out) hnb HX.out.c0).mono ?_; rintro e w' ⟨rfl, rfl⟩; rw [HT.out])
    go_ret
    exact ⟨by cases t <;> rfl, HW.out⟩
  · have hq' : ((nn : Int) == N) = false := by simpa using hq
    rw [decide_eq_false hq]
    clear hq
    go_enter Try.func37, Try.ntmps37
    go_wp2_with fail
    go_ret
    exact ⟨rfl, HW.out⟩
set_option maxHeartbeats 2000000 in
set_option maxRecDepth 100000 in
theorem weights_any {w : World} {p : PV} {es : List (Int × Int)} {ws : List Int} {ns : List Nat} (h : Pl w p es ws ns) :
    Calls Try.prog 36 #[p.val] w fun e w' => e = .returned (.bool (decide ((ws.length : Int) = p.lanes) && Plan.wsOk ws)) ∧ Below w.heap.size w w' := by
  have HX : Hid (Bxd (w.alloc p.obj) w.heap.size p) := bxd_new w p
  have HW : Hid (Below w.heap.size w (w.alloc p.obj)) := fresh _ _
  have HZ : Hid (Zr w p.wa p.wn ws) := h.hw
  have hwb := h.wb
  have hwn := h.hw.1
  clear h
  obtain ⟨N, lanes, room, queue, rounds, every, bag, start, ea, en, ec, wa, wn, wc, na, nn, nc⟩ := p
  simp only [PV.val, PV.obj] at HX HW HZ hwb hwn ⊢
  rw [hwn]
  obtain ⟨t, ht⟩ : ∃ t, Plan.wsOk ws = t := ⟨_, rfl⟩
  rw [ht]
  have HT : Hid (Plan.wsOk ws = t) := ht
  clear ht
  by_cases hq : (wn : Int) = lanes
  · have hq' : ((wn : Int) == lanes) = true := by simpa using hq
    rw [decide_eq_true hq]
    clear hq
    go_enter Try.func36, Try.ntmps36
    go_wp2_with (go_at_call 53; refine (wheel_any (HZ.out.below HW.out) hwb).mono ?_; rintro e w' ⟨q, rfl, hqn, hB⟩; rw [HT.out] at hqn; have HQ : Hid (q.isNone = !t) := hqn; have HB : Hid (Below w.heap.size w w') := later HW.out hB; clear hqn hB)
    go_ret
    exact ⟨by have := HQ.out; cases t <;> cases q <;> simp_all, HB.out⟩
  · have hq' : ((wn : Int) == lanes) = false := by simpa using hq
    rw [decide_eq_false hq]
    clear hq
    go_enter Try.func36, Try.ntmps36
    go_wp2_with fail
    go_ret
    exact ⟨rfl, HW.out⟩
end Go.Proofs.Ytphaaolnmbadcaa
