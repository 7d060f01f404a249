/-
  Contracts and plain facts that the walks lean on (PlanA, PlanB). Conditions: none but those that each states.
-/
import Derived.Test.YtniicgbkeifnjaaGreatDoorQ23
namespace Go.Proofs.YtniicgbkeifnjaaGreatDoor
open Go.ChangeShapes Go.WideShapes Go.ChangeAt Go.RowKit
set_option linter.unusedVariables false
set_option maxRecDepth 100000
theorem within_any (n lo hi : Int) (w : World) :
    Calls Tryz.prog 194 #[.int .i64 n, .int .i64 lo, .int .i64 hi] w fun e w' => e = .returned (.bool (Plan.bnd n lo hi)) ∧ w' = w := by
  by_cases h1 : lo ≤ n
  · by_cases h2 : n ≤ hi
    · have e : Plan.bnd n lo hi = true := by unfold Plan.bnd; simp [h1, h2]
      rw [e]
      go_enter Tryz.func194, Tryz.ntmps194
      go_wp2_with fail
      go_ret
      exact ⟨rfl, rfl⟩
    · have e : Plan.bnd n lo hi = false := by unfold Plan.bnd; simp [h2]
      rw [e]
      go_enter Tryz.func194, Tryz.ntmps194
      go_wp2_with fail
      go_ret
      exact ⟨rfl, rfl⟩
  · have e : Plan.bnd n lo hi = false := by unfold Plan.bnd; simp [h1]
    rw [e]
    go_enter Tryz.func194, Tryz.ntmps194
    go_wp2_with fail
    go_ret
    exact ⟨rfl, rfl⟩
set_option maxHeartbeats 2000000 in
set_option maxRecDepth 100000 in
theorem numbers_any (w : World) (p : PV) :
    Calls Tryz.prog 140 #[p.val] w fun e w' => e = .returned (.bool (Plan.fine p.num)) ∧ Below w.heap.size w w' := by
  have HX : Hid (Bxd (w.alloc p.obj) w.heap.size p) := bxd_new w p
  have HW : Hid (Below w.heap.size w (w.alloc p.obj)) := fresh _ _
  obtain ⟨N, lanes, room, queue, rounds, every, bag, start, ea, en, ec, wa, wn, wc, na, nn, nc⟩ := p
  simp only [PV.val, PV.obj, PV.num] at HX HW ⊢
  have HF : Hid (Plan.fine ⟨N, lanes, room, queue, rounds, every, bag⟩ = (Plan.bnd N 2 6 && Plan.bnd lanes 1 3 && Plan.bnd room 1 8 && Plan.bnd queue 1 8 && Plan.bnd rounds 1 4 && Plan.bnd every 1 8 && Plan.bnd bag 1 64)) := rfl
  rw [HF.out]
  clear HF
  go_enter Tryz.func140, Tryz.ntmps140
  go_wp2_with (go_at_call 194; refine (within_any _ _ _ _).mono ?_; rintro e w' ⟨rfl, rfl⟩)
  all_goals (go_ret; exact ⟨by simp [*], HW.out⟩)
theorem isnone_any (m : Nat) (ra : Option Addr) (rc b : Nat) (N : Int) (w : World) (hc : w.cell? ⟨b, 0, none⟩ = some (.int .i64 N)) :
    Calls Tryz.prog 198 #[.slice ra m rc, .pointer (some ⟨b, 0, none⟩)] w fun e w' => e = .returned (.bool (!decide ((m : Int) = N))) ∧ w' = w := by
  by_cases h : (m : Int) = N
  · have h' : ((m : Int) != N) = false := by simpa using h
    rw [decide_eq_true h]
    clear h
    go_enter Tryz.func198, Tryz.ntmps198
    go_wp2_with fail
    go_ret
    exact ⟨rfl, rfl⟩
  · have h' : ((m : Int) != N) = true := by simpa using h
    rw [decide_eq_false h]
    clear h
    go_enter Tryz.func198, Tryz.ntmps198
    go_wp2_with fail
    go_ret
    exact ⟨rfl, rfl⟩
namespace Plan
theorem all_rows {ns : List Nat} {N : Int} (h : ∀ j, j < ns.length → (ns.getD j 0 : Int) = N) : ns.all (fun n => decide ((n : Int) = N)) = true := by
  rw [List.all_eq_true]
  intro x hx
  obtain ⟨j, hj, rfl⟩ := List.getElem_of_mem hx
  have := h j hj
  rw [List.getD_eq_getElem?_getD, List.getElem?_eq_getElem hj] at this
  exact decide_eq_true this
theorem not_all_rows {ns : List Nat} {N : Int} {k : Nat} (hk : k < ns.length) (h : ¬ (ns.getD k 0 : Int) = N) : ns.all (fun n => decide ((n : Int) = N)) = false := by
  rw [List.all_eq_false]
  refine ⟨ns.getD k 0, ?_, by simpa using h⟩
  rw [List.getD_eq_getElem?_getD, List.getElem?_eq_getElem hk]
  exact List.getElem_mem _
end Plan
set_option maxHeartbeats 2000000 in
set_option maxRecDepth 100000 in
theorem nidx_any {w : World} {a : Option Addr} {n c b : Nat} {ns : List Nat} {N : Int} (h : Lr w a n ns) (hn : n ≤ 8796093022208) (hb : w.cell? ⟨b, 0, none⟩ = some (.int .i64 N)) :
    Calls Tryz.prog 226 #[.slice a n c, .func (Fn.func 198) #[] #[.pointer (some ⟨b, 0, none⟩)]] w fun e w' => ∃ z : Int, e = .returned (.int .i64 z) ∧ decide (0 ≤ z) = !(ns.all (fun n => decide ((n : Int) = N))) ∧ w' = w := by
  have HZ : Hid (Lr w a n ns) := h
  have HC : Hid (w.cell? ⟨b, 0, none⟩ = some (.int .i64 N)) := hb
  have hln := h.1
  clear h hb
  go_enter Tryz.func226, Tryz.ntmps226
  go_wp2_with fail
  go_loopw [5, 8] (fun _ i wr => ∃ k : Nat, k ≤ n ∧ i = .int .i64 k ∧ (∀ j, j < k → (ns.getD j 0 : Int) = N) ∧ wr = w) (fun _ i _ => n - (intOf i).toNat)
  case atStart => exact ⟨0, Nat.zero_le _, rfl, fun j hj => by omega, rfl⟩
  case round =>
    obtain ⟨k, hk, rfl, hno, rfl⟩ := hrel
    have HN : Hid (∀ j, j < k → (ns.getD j 0 : Int) = N) := hno
    clear hno
    by_cases hkn : k < n
    · obtain ⟨b2, off, ra, rc, ha, hc, hlc, hrm, _⟩ := HZ.out.at hkn
      subst ha
      obtain ⟨m, hm⟩ : ∃ m, ns.getD k 0 = m := ⟨_, rfl⟩
      have HY : Hid (ns.getD k 0 = m) := hm
      rw [hm] at hc hlc
      clear hm
      cases hb : decide ((m : Int) = N) with
      | true =>
        have hd : (m : Int) = N := of_decide_eq_true hb
        have HD : Hid ((m : Int) = N) := hd
        clear hd
        go_wp2_with (go_at_call 198; refine (isnone_any m ra rc b N _ HC.out).mono ?_; rintro e w' ⟨rfl, rfl⟩; rw [hb])
        go_roundw
        case rel =>
          have R : ∀ j, j < k + 1 → (ns.getD j 0 : Int) = N := fun j hj => by
            by_cases e : j = k
            · rw [e, HY.out]; exact HD.out
            · exact HN.out j (by omega)
          first | exact ⟨k + 1, by omega, by go_num, R, rfl⟩ | exact ⟨k + 1, by omega, by go_num, R, trivial⟩ | ((repeat apply Exists.intro); exact ⟨⟨k + 1, by omega, by go_num, R, rfl⟩, rfl⟩)
        case measure => simp [intOf]; omega
      | false =>
        have HF : Hid (ns.all (fun n => decide ((n : Int) = N)) = false) := Plan.not_all_rows (k := k) (by omega) (by rw [HY.out]; exact of_decide_eq_false hb)
        go_wp2_with (go_at_call 198; refine (isnone_any m ra rc b N _ HC.out).mono ?_; rintro e w' ⟨rfl, rfl⟩; rw [hb])
        go_ret
        exact ⟨(k : Int), rfl, by rw [HF.out]; exact decide_eq_true (by omega), rfl⟩
    · obtain rfl : k = n := by omega
      have HF : Hid (ns.all (fun n => decide ((n : Int) = N)) = true) := Plan.all_rows (fun j hj => HN.out j (by omega))
      go_wp2_with fail
      go_ret
      exact ⟨-1, rfl, by rw [HF.out]; rfl, rfl⟩
theorem ncont_any {w : World} {a : Option Addr} {n c b : Nat} {ns : List Nat} {N : Int} (h : Lr w a n ns) (hn : n ≤ 8796093022208) (hb : w.cell? ⟨b, 0, none⟩ = some (.int .i64 N)) :
    Calls Tryz.prog 199 #[.slice a n c, .func (Fn.func 198) #[] #[.pointer (some ⟨b, 0, none⟩)]] w fun e w' => e = .returned (.bool (!(ns.all (fun n => decide ((n : Int) = N))))) ∧ w' = w := by
  have HZ : Hid (Lr w a n ns) := h
  have HC : Hid (w.cell? ⟨b, 0, none⟩ = some (.int .i64 N)) := hb
  clear h hb
  go_enter Tryz.func199, Tryz.ntmps199
  go_wp2_with (go_at_call 226; refine (nidx_any HZ.out hn HC.out).mono ?_; rintro e w' ⟨z, rfl, hz, rfl⟩; have HD : Hid (decide (0 ≤ z) = !(ns.all (fun n => decide ((n : Int) = N)))) := hz; clear hz)
  go_ret
  exact ⟨by rw [← HD.out]; rfl, rfl⟩
set_option maxHeartbeats 2000000 in
set_option maxRecDepth 100000 in
theorem next_any {w : World} {p : PV} {es : List (Int × Int)} {ws : List Int} {ns : List Nat} (h : Pl w p es ws ns) :
    Calls Tryz.prog 143 #[p.val] w fun e w' => e = .returned (.bool (decide ((ns.length : Int) = p.nodes) && ns.all (fun n => decide ((n : Int) = p.nodes)))) ∧ Below w.heap.size w w' := by
  have HX : Hid (Bxd (w.alloc p.obj) w.heap.size p) := bxd_new w p
  have HW : Hid (Below w.heap.size w (w.alloc p.obj)) := fresh _ _
  have HN : Hid (Lr w p.na p.nn ns) := h.hn
  have hnb := h.nb
  have hnn := h.hn.1
  clear h
  obtain ⟨N, lanes, room, queue, rounds, every, bag, start, ea, en, ec, wa, wn, wc, na, nn, nc⟩ := p
  simp only [PV.val, PV.obj] at HX HW HN hnb hnn ⊢
  rw [hnn]
  obtain ⟨t, ht⟩ : ∃ t, ns.all (fun n => decide ((n : Int) = N)) = t := ⟨_, rfl⟩
  rw [ht]
  have HT : Hid (ns.all (fun n => decide ((n : Int) = N)) = t) := ht
  clear ht
  by_cases hq : (nn : Int) = N
  · have hq' : ((nn : Int) == N) = true := by simpa using hq
    rw [decide_eq_true hq]
    clear hq
    go_enter Tryz.func143, Tryz.ntmps143
    go_wp2_with (go_at_call 199; refine (ncont_any (b := w.heap.size) (N := N) (HN.out.below HW.out) hnb HX.out.c0).mono ?_; rintro e w' ⟨rfl, rfl⟩; rw [HT.out])
    go_ret
    exact ⟨by cases t <;> rfl, HW.out⟩
  · have hq' : ((nn : Int) == N) = false := by simpa using hq
    rw [decide_eq_false hq]
    clear hq
    go_enter Tryz.func143, Tryz.ntmps143
    go_wp2_with fail
    go_ret
    exact ⟨rfl, HW.out⟩
set_option maxHeartbeats 2000000 in
set_option maxRecDepth 100000 in
theorem weights_any {w : World} {p : PV} {es : List (Int × Int)} {ws : List Int} {ns : List Nat} (h : Pl w p es ws ns) :
    Calls Tryz.prog 142 #[p.val] w fun e w' => e = .returned (.bool (decide ((ws.length : Int) = p.lanes) && Plan.wsOk ws)) ∧ Below w.heap.size w w' := by
  have HX : Hid (Bxd (w.alloc p.obj) w.heap.size p) := bxd_new w p
  have HW : Hid (Below w.heap.size w (w.alloc p.obj)) := fresh _ _
  have HZ : Hid (Zr w p.wa p.wn ws) := h.hw
  have hwb := h.wb
  have hwn := h.hw.1
  clear h
  obtain ⟨N, lanes, room, queue, rounds, every, bag, start, ea, en, ec, wa, wn, wc, na, nn, nc⟩ := p
  simp only [PV.val, PV.obj] at HX HW HZ hwb hwn ⊢
  rw [hwn]
  obtain ⟨t, ht⟩ : ∃ t, Plan.wsOk ws = t := ⟨_, rfl⟩
  rw [ht]
  have HT : Hid (Plan.wsOk ws = t) := ht
  clear ht
  by_cases hq : (wn : Int) = lanes
  · have hq' : ((wn : Int) == lanes) = true := by simpa using hq
    rw [decide_eq_true hq]
    clear hq
    go_enter Tryz.func142, Tryz.ntmps142
    go_wp2_with (go_at_call 91; refine (wheel_any (HZ.out.below HW.out) hwb).mono ?_; rintro e w' ⟨q, rfl, hqn, hB⟩; rw [HT.out] at hqn; have HQ : Hid (q.isNone = !t) := hqn; have HB : Hid (Below w.heap.size w w') := later HW.out hB; clear hqn hB)
    go_ret
    exact ⟨by have := HQ.out; cases t <;> cases q <;> simp_all, HB.out⟩
  · have hq' : ((wn : Int) == lanes) = false := by simpa using hq
    rw [decide_eq_false hq]
    clear hq
    go_enter Tryz.func142, Tryz.ntmps142
    go_wp2_with fail
    go_ret
    exact ⟨rfl, HW.out⟩
end Go.Proofs.YtniicgbkeifnjaaGreatDoor
namespace Go.Proofs.YtniicgbkeifnjaaGreatDoor
open Go.ChangeShapes Go.WideShapes Go.ChangeAt Go.RowKit
set_option linter.unusedVariables false
set_option maxRecDepth 100000
namespace Plan
def end1 (v one other : Int) : List Int := if one = v ∧ other ≠ v then [other] else []
theorem end1_len (v one other : Int) : (end1 v one other).length ≤ 1 := by unfold end1; split <;> simp
theorem rawE_ends (v : Int) (e : Int × Int) : rawE v e = end1 v e.1 e.2 ++ end1 v e.2 e.1 := rfl
theorem raw_succ {es : List (Int × Int)} {k : Nat} (v : Int) (h : k < es.length) : raw (es.take (k + 1)) v = raw (es.take k) v ++ rawE v (es.getD k (0, 0)) := by
  rw [take_pair h, raw_snoc]
end Plan
theorem owns_set {w : World} {base n size q : Nat} {e : TypeId} {v x : Value} {xs : List Value} (h : w.ownsRow base e size v n xs) (hq : q < base) : (w.setCell ⟨q, 0, none⟩ x).ownsRow base e size v n xs :=
  h.kept (row := some q) ⟨rfl, rfl, rfl, by simp [World.setCell], fun j hj hn => Below.heap_setCell _ _ _ _ (fun e => hn (by rw [e]))⟩ (by
    cases hv : v.ownBlock with
    | none => exact .inl rfl
    | some k => exact .inr (by have := (h.lt k hv).1; simp; omega))
set_option maxHeartbeats 2000000 in
set_option maxRecDepth 100000 in
theorem join_any {wr : World} {base q vb : Nat} {l : List Int} {u : Value} (v one other : Int) (hv : wr.cell? ⟨vb, 0, none⟩ = some (.int .i64 v)) (hc : wr.cell? ⟨q, 0, none⟩ = some u) (hf : wr.frozen? ⟨q, 0, none⟩ = false) (ho : wr.ownsRow base 3 1 u l.length (zcells l)) (hqb : q < base) (hb : base ≤ wr.heap.size) (hl : l.length ≤ 17592186044000) :
    Calls Tryz.prog 153 #[.int .i64 one, .int .i64 other, .pointer (some ⟨vb, 0, none⟩), .pointer (some ⟨q, 0, none⟩)] wr fun e w' => e = .returned (.tuple #[]) ∧ ∃ u', w'.cell? ⟨q, 0, none⟩ = some u' ∧ w'.frozen? ⟨q, 0, none⟩ = false ∧ w'.ownsRow base 3 1 u' (l ++ Plan.end1 v one other).length (zcells (l ++ Plan.end1 v one other)) ∧ Sans (fun j => j = q ∨ u.ownBlock = some j) wr w' := by
  have HO : Hid (wr.ownsRow base 3 1 u l.length (zcells l)) := ho
  have hq : q < wr.heap.size := cell_lt hc
  by_cases h1 : one = v
  · by_cases h2 : other = v
    · have e : Plan.end1 v one other = [] := by unfold Plan.end1; rw [if_neg (fun h => h.2 h2)]
      rw [e, List.append_nil]
      have h1' : (one == v) = true := by simpa using h1
      have h2' : (other != v) = false := by simpa using h2
      have HR : Hid (∃ u', wr.cell? ⟨q, 0, none⟩ = some u' ∧ wr.frozen? ⟨q, 0, none⟩ = false ∧ wr.ownsRow base 3 1 u' l.length (zcells l) ∧ Sans (fun j => j = q ∨ u.ownBlock = some j) wr wr) := ⟨u, hc, hf, ho, Sans.refl _ _⟩
      clear ho h1 h2 e
      go_enter Tryz.func153, Tryz.ntmps153
      go_wp2_with fail
      go_end0
      exact ⟨rfl, HR.out⟩
    · have e : Plan.end1 v one other = [other] := by unfold Plan.end1; rw [if_pos ⟨h1, h2⟩]
      rw [e]
      have h1' : (one == v) = true := by simpa using h1
      have h2' : (other != v) = true := by simpa using h2
      have hub : u.ownBlock ≠ some q := fun hk => by have := (ho.lt _ hk).1; omega
      have HU : Hid (u.ownBlock ≠ some q) := hub
      clear ho h1 h2 e hub
      go_enter Tryz.func153, Tryz.ntmps153
      go_wp2_with (at_builtin; refine wpList_append_v rfl (.tmp 14) (.tmp 16) 27 3 rfl (.int .i64 0) 1 8 Tryz.underlying27 infoI rfl (by decide) base u l.length (zcells l) rfl (owns_below HO.out (fresh _ _)) (by simp; omega) (some ⟨wr.heap.size, 0, none⟩) 1 1 (zcells [other]) rfl rfl (fun e => by cases e) (.inr ⟨_, rfl, fun j x hx => ?_⟩) (zcells_one _) (by unfold maxLen; omega) (by omega) ?_; rotate_left; intro v4 w4 hown4 hB4 hg4 hat4; have hc4 : w4.cell? ⟨q, 0, none⟩ = some u := (World.cell?_of_block (w := wr.alloc _) (a := ⟨q, 0, none⟩) (hg4.block q (by simp; omega) (fun e => HU.out e.symm))).trans (((fresh wr _).cell (p := ⟨q, 0, none⟩) hq).trans hc); have hf4 : w4.frozen? ⟨q, 0, none⟩ = false := (World.frozen?_of_block (w := wr.alloc _) (a := ⟨q, 0, none⟩) (hg4.block q (by simp; omega) (fun e => HU.out e.symm))).trans (((fresh wr _).frozen (p := ⟨q, 0, none⟩) hq).trans hf); have HG : Hid (Sans (fun j => j = q ∨ u.ownBlock = some j) wr w4) := (Sans.alloc wr _).then (Sans.of_grown hg4 (fun k e => .inr e)); have hown5 : w4.ownsRow base 3 1 v4 (l ++ [other]).length (zcells (l ++ [other])) := (by rw [← zcells_append, List.length_append]; exact hown4); obtain ⟨a4, cap4, rfl, _⟩ := zr_of_owns hown5; have HO4 : Hid (w4.ownsRow base 3 1 (.slice a4 (l ++ [other]).length cap4) (l ++ [other]).length (zcells (l ++ [other]))) := hown5; clear hown4 hown5 hB4 hg4 hat4)
      · go_end0
        exact ⟨rfl, _, World.cell?_setCell_same _ _ _ hc4, by rw [World.frozen?_setCell]; exact hf4, owns_set (by have := HO4.out; rw [List.length_append] at this ⊢; exact this) hqb, HG.out.then (Sans.of_set _ _ _ (.inl rfl))⟩
      · obtain rfl : j = 0 := by
          have := (List.getElem?_eq_some_iff.1 hx).1
          simp [zcells] at this
          exact this
        rw [add_lit, ← hx]
        simp [zcells]
  · have e : Plan.end1 v one other = [] := by unfold Plan.end1; rw [if_neg (fun h => h1 h.1)]
    rw [e, List.append_nil]
    have h1' : (one == v) = false := by simpa using h1
    have HR : Hid (∃ u', wr.cell? ⟨q, 0, none⟩ = some u' ∧ wr.frozen? ⟨q, 0, none⟩ = false ∧ wr.ownsRow base 3 1 u' l.length (zcells l) ∧ Sans (fun j => j = q ∨ u.ownBlock = some j) wr wr) := ⟨u, hc, hf, ho, Sans.refl _ _⟩
    clear ho h1 e
    go_enter Tryz.func153, Tryz.ntmps153
    go_wp2_with fail
    go_end0
    exact ⟨rfl, HR.out⟩
structure Bes (w : World) (base q : Nat) (l : List Int) (wr : World) : Prop where
  cell : ∃ u, wr.cell? ⟨q, 0, none⟩ = some u ∧ wr.ownsRow base 3 1 u l.length (zcells l)
  fz : wr.frozen? ⟨q, 0, none⟩ = false
  sans : Sans (fun j => j = q ∨ base ≤ j) w wr
theorem three_boxes (w : World) (o1 : Obj) (v : Int) (W : World) (hW : ((w.alloc o1).alloc (.cells #[.int .i64 v] 3)).alloc (.cells #[.slice none 0 0] 27) = W) : Bes W (w.heap.size + 1 + 1 + 1) (w.heap.size + 1 + 1) [] W ∧ W.cell? ⟨w.heap.size + 1, 0, none⟩ = some (.int .i64 v) ∧ Below w.heap.size w W ∧ W.heap.size = w.heap.size + 1 + 1 + 1 := by
  subst hW
  have e1 : (w.alloc o1).heap.size = w.heap.size + 1 := by simp
  have e2 : ((w.alloc o1).alloc (.cells #[.int .i64 v] 3)).heap.size = w.heap.size + 1 + 1 := by simp
  refine ⟨⟨⟨.slice none 0 0, ?_, World.ownsRow_nil _ _ _ _⟩, ?_, Sans.refl _ _⟩, ?_, later (later (fresh _ _) (fresh _ _)) (fresh _ _), by simp⟩
  · generalize (w.alloc o1).alloc _ = W2 at e2 ⊢
    rw [← e2]; simp
  · generalize (w.alloc o1).alloc _ = W2 at e2 ⊢
    rw [← e2]; unfold World.frozen?; rw [World.alloc_heap_new]; rfl
  · refine ((fresh _ _).cell (p := ⟨w.heap.size + 1, 0, none⟩) (by simp)).trans ?_
    generalize w.alloc o1 = W2 at e1 ⊢
    rw [← e1]; simp
set_option maxHeartbeats 4000000 in
set_option maxRecDepth 100000 in
theorem beside_raw {w : World} {p : PV} {es : List (Int × Int)} {ws : List Int} {ns : List Nat} (h : Pl w p es ws ns) (v : Int) :
    Calls Tryz.prog 92 #[p.val, .int .i64 v] w fun e w' => ∃ u, e = .returned u ∧ w'.ownsRow w.heap.size 3 1 u (Plan.bes es v).length (zcells (Plan.bes es v)) ∧ Below w.heap.size w w' := by
  have heb := h.eb
  have hen := h.he.1
  have HXn : Hid (Bxd (w.alloc p.obj) w.heap.size p) := bxd_new w p
  have HT := three_boxes w p.obj v
  obtain ⟨nodes, lanes, room, queue, rounds, every, bag, start, ea, en, ec, wa, wn, wc, na, nn, nc⟩ := p
  simp only [PV.val, PV.obj] at heb hen HXn HT ⊢
  have HE : Hid (Pr w ea en es) := h.he
  clear h
  have HT' : Hid _ := HT
  clear HT
  go_enter Tryz.func92, Tryz.ntmps92
  go_wp2_with fail
  obtain ⟨hB0, hv0, hW0, hS0⟩ := HT'.out _ rfl
  have HBs : Hid _ := hB0
  have HV : Hid _ := hv0
  have HW : Hid _ := hW0
  have HSz : Hid _ := hS0
  clear hB0 hv0 hW0 hS0 HT' HXn
  generalize World.alloc _ _ = W1 at HBs HV HW HSz ⊢
  obtain ⟨vb, hvb⟩ : ∃ vb, w.heap.size + 1 = vb := ⟨_, rfl⟩
  rw [hvb] at HBs HV HSz ⊢
  obtain ⟨q, hq⟩ : ∃ q, vb + 1 = q := ⟨_, rfl⟩
  rw [hq] at HBs HSz ⊢
  have HQ : Hid (w.heap.size + 1 = vb ∧ vb + 1 = q ∧ W1.heap.size = q + 1) := ⟨hvb, hq, HSz.out⟩
  clear hvb hq HSz
  go_loopw [8, 13] (fun _ i wr => ∃ k : Nat, k ≤ en ∧ i = .int .i64 k ∧ Bes W1 (q + 1) q (Plan.raw (es.take k) v) wr) (fun _ i _ => en - (intOf i).toNat)
  case atStart => exact ⟨0, Nat.zero_le _, rfl, HBs.out⟩
  case round =>
    obtain ⟨k, hk, rfl, hB⟩ := hrel
    have hbel : Below w.heap.size w wr := HW.out.trans (hB.sans.below (by have := HQ.out; omega) (fun j hj => by have := HQ.out; omega))
    have hv : wr.cell? ⟨vb, 0, none⟩ = some (.int .i64 v) := (hB.sans.cell (p := ⟨vb, 0, none⟩) (by have := HQ.out; show vb < _; omega) (by have := HQ.out; show ¬ (vb = q ∨ q + 1 ≤ vb); omega)).trans HV.out
    have HB : Hid (Bes W1 (q + 1) q (Plan.raw (es.take k) v) wr) := hB
    have HBe : Hid (Below w.heap.size w wr) := hbel
    have hsz : q + 1 ≤ wr.heap.size := by have := hB.sans.size; have := HQ.out; omega
    obtain ⟨u, hcu, hou⟩ := hB.cell
    have hfu := hB.fz
    have HOu : Hid (wr.ownsRow (q + 1) 3 1 u (Plan.raw (es.take k) v).length (zcells (Plan.raw (es.take k) v))) := hou
    have hrl : (Plan.raw (es.take k) v).length ≤ k := by have := Plan.raw_len v (es.take k); rw [List.length_take] at this; omega
    clear hB hbel hou
    by_cases hkn : k < en
    · obtain ⟨b, off, ha, hcA, hcB⟩ := (HE.out.below HBe.out).at hkn
      have hrs := Plan.raw_succ v (show k < es.length by omega)
      obtain ⟨⟨A, B⟩, hy⟩ : ∃ y, es.getD k (0, 0) = y := ⟨_, rfl⟩
      rw [hy] at hcA hcB hrs
      simp only at hcA hcB
      rw [Plan.rawE_ends] at hrs
      subst ha
      have HS : Hid (Plan.raw (es.take (k + 1)) v = Plan.raw (es.take k) v ++ (Plan.end1 v A B ++ Plan.end1 v B A)) := hrs
      clear hrs hy
      obtain ⟨l, hl⟩ : ∃ l, Plan.raw (es.take k) v = l := ⟨_, rfl⟩
      rw [hl] at HOu hrl HS HB
      clear hl
      have J1 := join_any (wr := wr.alloc (.cells #[.int .i64 A, .int .i64 B] 43)) (base := q + 1) (q := q) (vb := vb) (l := l) (u := u) v A B (((fresh _ _).cell (p := ⟨vb, 0, none⟩) (cell_lt hv)).trans hv) (((fresh _ _).cell (p := ⟨q, 0, none⟩) (cell_lt hcu)).trans hcu) (((fresh _ _).frozen (p := ⟨q, 0, none⟩) (cell_lt hcu)).trans hfu) (owns_below HOu.out (fresh _ _)) (by omega) (by simp; omega) (by omega)
      have HJ : Hid _ := J1
      clear J1
      go_wp2_with fail
      refine Calls.mono HJ.out ?_
      rintro e w2 ⟨rfl, u2, hcu2, hfu2, hou2, hs2⟩
      have hu1 : ∀ j, u.ownBlock = some j → q + 1 ≤ j ∧ j < wr.heap.size := fun j hj => HOu.out.lt j hj
      have hvb : vb < q := by have := HQ.out; omega
      have hE : ∀ o, w2.cell? ⟨wr.heap.size, o, none⟩ = (wr.alloc (.cells #[.int .i64 A, .int .i64 B] 43)).cell? ⟨wr.heap.size, o, none⟩ := fun o => hs2.cell (p := ⟨wr.heap.size, o, none⟩) (by simp) (by
        rintro (e | e)
        · simp only at e; omega
        · have := hu1 _ e; simp only at this; omega)
      have d0 : w2.cell? ⟨wr.heap.size, 0, none⟩ = some (.int .i64 A) := (hE 0).trans (by simp)
      have d1 : w2.cell? ⟨wr.heap.size, 1, none⟩ = some (.int .i64 B) := (hE 1).trans (by simp)
      have hv2 : w2.cell? ⟨vb, 0, none⟩ = some (.int .i64 v) := (hs2.cell (p := ⟨vb, 0, none⟩) (by have := cell_lt hv; simp only at this; simp; omega) (by
        rintro (e | e)
        · simp only at e; omega
        · have := hu1 _ e; simp only at this; omega)).trans (((fresh _ _).cell (p := ⟨vb, 0, none⟩) (cell_lt hv)).trans hv)
      have hs3 : Sans (fun j => j = q ∨ q + 1 ≤ j) W1 w2 := HB.out.sans.then ((Sans.alloc _ _).then (hs2.mono (fun j hj => hj.elim .inl (fun e => .inr (hu1 j e).1))))
      have hsz2 : q + 1 ≤ w2.heap.size := by have := hs3.size; have := HQ.out; omega
      have J2 := join_any (wr := w2) (base := q + 1) (q := q) (vb := vb) (l := l ++ Plan.end1 v A B) (u := u2) v B A hv2 hcu2 hfu2 hou2 (by omega) hsz2 (by have := Plan.end1_len v A B; rw [List.length_append]; omega)
      have HJ2 : Hid _ := J2
      have HS3 : Hid _ := hs3
      have hu2 : ∀ j, u2.ownBlock = some j → q + 1 ≤ j := fun j hj => (hou2.lt j hj).1
      have HO2 : Hid _ := hu2
      clear hu2
      clear J2 hs3 hou2 hs2 hE hu1
      go_wp2_with fail
      refine Calls.mono HJ2.out ?_
      rintro e w3 ⟨rfl, u3, hcu3, hfu3, hou3, hs4⟩
      have R : Bes W1 (q + 1) q (Plan.raw (es.take (k + 1)) v) w3 := by
        rw [HS.out, ← List.append_assoc]
        exact ⟨⟨u3, hcu3, hou3⟩, hfu3, HS3.out.then (hs4.mono (fun j hj => hj.elim .inl (fun e => .inr (HO2.out j e))))⟩
      have HR : Hid _ := R
      clear R hou3 hs4 hcu3 hfu3
      go_wp2_with fail
      go_roundw
      case rel => first | exact ⟨k + 1, by omega, by go_num, HR.out⟩ | ((repeat apply Exists.intro); exact ⟨⟨k + 1, by omega, by go_num, HR.out⟩, rfl⟩)
      case measure => simp [intOf]; omega
    · obtain rfl : k = en := by omega
      have hR : es.take k = es := by rw [← hen]; exact List.take_length
      rw [hR] at HOu hrl HB
      have hr := Plan.raw_len v es
      have HL : Hid ((Plan.raw es v).length ≤ 17592186044416) := by show _ ≤ _; omega
      obtain ⟨l, hl⟩ : ∃ l, Plan.raw es v = l := ⟨_, rfl⟩
      have HBS : Hid (Lib.compact (Plan.sorted l) = Plan.bes es v) := Plan.bes_sorted es v l (fun x => by rw [← hl])
      rw [hl] at HOu hrl HB hr HL
      clear hl hr hrl
      go_wp2_with fail
      refine (sort_own HOu.out HL.out).mono ?_
      rintro e w2 ⟨rfl, ho2, hB2⟩
      have hcu2 : w2.cell? ⟨q, 0, none⟩ = some u := (hB2.cell (p := ⟨q, 0, none⟩) (by show q < q + 1; omega)).trans hcu
      have HO2 : Hid (w2.ownsRow (q + 1) 3 1 u (Plan.sorted l).length (zcells (Plan.sorted l))) := ho2
      have HB2 : Hid (Below w.heap.size w w2) := HBe.out.trans (hB2.mono (by have := HQ.out; omega))
      have HL2 : Hid ((Plan.sorted l).length ≤ 17592186044416) := by show _ ≤ _; rw [Plan.sorted_len]; exact HL.out
      clear ho2 hB2 hcu hfu
      go_wp2_with fail
      refine (compact_own HO2.out HL2.out).mono ?_
      rintro e w3 ⟨v3, rfl, ho3, hB3⟩
      rw [HBS.out] at ho3
      have HR : Hid (w3.ownsRow w.heap.size 3 1 v3 (Plan.bes es v).length (zcells (Plan.bes es v)) ∧ Below w.heap.size w w3) := ⟨owns_mono ho3 (by have := HQ.out; omega), HB2.out.trans (hB3.mono (by have := HQ.out; omega))⟩
      clear ho3 hB3
      go_wp2_with fail
      go_ret
      exact ⟨_, rfl, HR.out⟩
end Go.Proofs.YtniicgbkeifnjaaGreatDoor
