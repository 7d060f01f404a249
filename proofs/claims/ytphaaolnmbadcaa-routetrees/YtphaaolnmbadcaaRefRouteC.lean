/-
  The document's own Path (package shunterref14). Conditions: none but that the plan's rows are led to.
-/
import Derived.Test.YtphaaolnmbadcaaRefRouteB
namespace Go.Proofs.Ytphaaolnmbadcaa
open Go.ChangeShapes Go.WideShapes Go.ChangeAt Go.RowKit
set_option linter.unusedVariables false

/-- how long a slice is -/
def lenV (v : Value) : Nat := match v with | .slice _ n _ => n | _ => 0
theorem go_ne {es : List (Int × Int)} {rs : List (List Int)} {w v : Int} {f : Nat} : (Route.go es rs w f v).length ≤ f + 1 := Route.go_len es rs w f v
/-- what Path comes to where the plan may not be, or one is no node -/
theorem pathOf_no {b : Bool} {N : Int} {es : List (Int × Int)} {rs : List (List Int)} {v w : Int} (h : (b && Route.isIn N v && Route.isIn N w) = false) : Route.pathOf b N es rs v w = [] := by
  unfold Route.pathOf
  rw [h]
  rfl
theorem pathOf_yes {N : Int} {es : List (Int × Int)} {rs : List (List Int)} {v w : Int} (h1 : 0 ≤ v ∧ v < N) (h2 : 0 ≤ w ∧ w < N) : Route.pathOf true N es rs v w = Route.go es rs w (N.toNat - 1) v := by
  unfold Route.pathOf Route.isIn
  rw [decide_eq_true h1.1, decide_eq_true h1.2, decide_eq_true h2.1, decide_eq_true h2.2]
  rfl
set_option maxHeartbeats 8000000 in
set_option maxRecDepth 100000 in
theorem rroute_any {w : World} {p : PV} {es : List (Int × Int)} {ws : List Int} {rs : List (List Int)} (h : PlN w p es ws rs) {b : Bool} (hb : Plan.may p.num es ws (rs.map List.length) = b) (v u : Int) :
    Calls Try.prog 31 #[p.val, .int .i64 v, .int .i64 u] w fun e w' => ∃ x, e = .returned x ∧ w'.ownsRow w.heap.size 3 1 x (Route.pathOf b p.nodes es rs v u).length (zcells (Route.pathOf b p.nodes es rs v u)) ∧ Below w.heap.size w w' := by
  have HP : Hid (PlN w p es ws rs) := h
  have HX : Hid (Bxd (w.alloc p.obj) w.heap.size p) := bxd_new w p
  have HPb : Hid (PlN (w.alloc p.obj) p es ws rs) := h.below (fresh _ _)
  have HW : Hid (Below w.heap.size w (w.alloc p.obj)) := fresh _ _
  have HMb : Hid (Plan.may p.num es ws (rs.map List.length) = b) := hb
  clear h
  obtain ⟨x0, x1, x2, x3, x4, x5, x6, x7, x8, x9, x10⟩ := HX.out
  simp only [PV.obj] at HX HPb HW x0 x1 x2 x3 x4 x5 x6 x7 x8 x9 x10
  cases b with
  | false =>
    have HR : Hid (Route.pathOf false p.nodes es rs v u = []) := pathOf_no rfl
    clear hb
    unfold PV.val
    go_enter Try.func31, Try.ntmps31
    go_wp2_with (go_at_call 45; refine Calls.mono (rcheck_is HPb.out.pl HMb.out) ?_; rintro e w1 ⟨rfl, hB1⟩; have HB1 : Hid (Below w.heap.size w w1) := later HW.out hB1; clear hB1)
    go_ret
    rw [HR.out]
    exact ⟨_, rfl, World.ownsRow_nil _ _ _ _, HB1.out⟩
  | true =>
    obtain ⟨n, hm⟩ := may_n hb
    have HM : Hid (MayN p es rs n) := hm
    have hN := hm.nodes
    have hn6 := hm.two
    clear hm hb x0 x1 x2 x3 x4 x5 x6 x7 x8 x9 x10
    obtain ⟨N0, lanes, room, queue, rounds, every, bag, start, ea, en, ec, wa, wn, wc, na, nn, nc⟩ := p
    simp only at hN
    subst hN
    have hX := HX.out
    obtain ⟨x0, x1, x2, x3, x4, x5, x6, x7, x8, x9, x10⟩ := hX
    simp only at HX HPb HW x0 x1 x2 x3 x4 x5 x6 x7 x8 x9 x10
    simp only [PV.val]
    by_cases hin : (0 ≤ v ∧ v < (n : Int)) ∧ (0 ≤ u ∧ u < (n : Int))
    · obtain ⟨hv, hu⟩ := hin
      have HR : Hid (Route.pathOf true (n : Int) es rs v u = Route.go es rs u (n - 1) v) := by
        show _ = _
        rw [pathOf_yes hv hu, Int.toNat_natCast]
      rw [HR.out]
      obtain ⟨R, hR⟩ : ∃ R, Route.go es rs u (n - 1) v = R := ⟨_, rfl⟩
      have HR0 : Hid (Route.behind [] (Route.go es rs u (n - 1) v) = R) := by
        show _ = _
        rw [← hR]
        unfold Route.behind
        split
        · rename_i h; rw [h]
        · rfl
      rw [hR]
      clear hR HR
      have g1 : decide (v < 0) = false := decide_eq_false (by omega)
      have g2 : decide ((n : Int) ≤ v) = false := decide_eq_false (by omega)
      have g3 : decide (u < 0) = false := decide_eq_false (by omega)
      have g4 : decide ((n : Int) ≤ u) = false := decide_eq_false (by omega)
      go_enter Try.func31, Try.ntmps31
      go_wp2_with fail
      refine (rcheck_is HPb.out.pl HMb.out).mono ?_
      rintro e w1 ⟨rfl, hB1⟩
      have HB1 : Hid (Below w.heap.size w w1) := later HW.out hB1
      have HX1 : Hid (Bxd w1 w.heap.size _) := HX.out.below hB1
      have HP1 : Hid (PlN w1 _ es ws rs) := HPb.out.below hB1
      clear hB1 x0 x1 x2 x3 x4 x5 x6 x7 x8 x9 x10 HX HPb HW
      have q0 := HX1.out.c0
      simp only at q0
      go_wp2_with fail
      clear g1 g2 g3 g4 q0
      have HO0 : Hid ((w1.alloc (.cells #[.int .i64 v] 3)).ownsRow w1.heap.size 3 1 (.slice (some ⟨w1.heap.size, 0, none⟩) 1 1) ([] ++ [v]).length (zcells ([] ++ [v]))) := World.ownsRow_lit (base := w1.heap.size) (e := 3) (size := 1) w1 #[.int .i64 v] 1 (Nat.le_refl _) (by unfold maxLen; omega) (by simp)
      have HB2 : Hid (Below w1.heap.size w1 (w1.alloc (.cells #[.int .i64 v] 3))) := fresh _ _
      generalize w1.alloc _ = W at HO0 HB2 ⊢
      have hw1 : w.heap.size ≤ w1.heap.size := HB1.out.size
      go_loopw [1, 7, 8] (fun c out _ wr => ∃ (pre : List Int) (y : Int) (f : Nat), c = .int .i64 y ∧ (0 ≤ y ∧ y < (n : Int)) ∧ pre.length + 1 + f = n ∧ Route.behind pre (Route.go es rs u f y) = R ∧ wr.ownsRow w1.heap.size 3 1 out (pre ++ [y]).length (zcells (pre ++ [y])) ∧ Below w1.heap.size w1 wr) (fun _ out _ _ => n - lenV out)
      case atStart => exact ⟨[], v, n - 1, rfl, hv, by simp; omega, HR0.out, HO0.out, HB2.out⟩
      case round =>
        obtain ⟨pre, y, f, rfl, hy, hf, hgo, hO, hB⟩ := hrel
        have HO : Hid (wr.ownsRow w1.heap.size 3 1 u7 (pre ++ [y]).length (zcells (pre ++ [y]))) := hO
        have HBr : Hid (Below w1.heap.size w1 wr) := hB
        have HB : Hid (Below w.heap.size w wr) := later HB1.out hB
        have HX : Hid (Bxd wr w.heap.size ⟨(n : Int), lanes, room, queue, rounds, every, bag, start, ea, en, ec, wa, wn, wc, na, nn, nc⟩) := HX1.out.below hB
        have HPr : Hid (PlN wr ⟨(n : Int), lanes, room, queue, rounds, every, bag, start, ea, en, ec, wa, wn, wc, na, nn, nc⟩ es ws rs) := HP1.out.below hB
        have HGo : Hid (Route.behind pre (Route.go es rs u f y) = R) := hgo
        have hpl : (pre ++ [y]).length = pre.length + 1 := by simp
        have hgw : w1.heap.size ≤ wr.heap.size := hB.size
        clear hO hB hgo
        obtain ⟨a7, c7, hv7, hz7, hl7, hm7, hn7, hg7⟩ := zr_of_owns HO.out
        subst hv7
        obtain ⟨m, hm⟩ : ∃ m, (pre ++ [y]).length = m := ⟨_, rfl⟩
        have HO1 : Hid (wr.ownsRow w1.heap.size 3 1 (.slice a7 m c7) (pre ++ [y]).length (zcells (pre ++ [y]))) := by rw [← hm]; exact HO.out
        rw [hm] at hpl hl7 ⊢
        clear hm HO
        have HPl : Hid (m = pre.length + 1) := hpl
        have HF0 : Hid (pre.length + 1 + f = n) := hf
        clear hpl hf
        by_cases hyu : y = u
        · have HF : Hid (R = pre ++ [y]) := by
            show _ = _
            rw [← HGo.out, hyu, Route.behind_self]
          have g : (y != u) = false := by simpa using hyu
          clear hyu hz7 hg7
          go_wp2_with fail
          go_ret
          rw [HF.out]
          exact ⟨_, rfl, owns_mono HO1.out hw1, HB.out⟩
        · have g : (y != u) = true := by simpa using hyu
          obtain ⟨nb, no, rb, ro, rc, e1, e2, cx1, cx2, hI⟩ := HPr.out.next HM.out hy hu
          simp only at e1 e2
          subst e1
          obtain ⟨x, hx⟩ : ∃ x, Route.nx rs y u = x := ⟨_, rfl⟩
          have HNx : Hid (Route.nx rs y u = x) := hx
          rw [hx] at cx2 hI
          clear hx hz7 hg7
          have hnn : nn = n := e2
          clear e2
          obtain ⟨x0, x1, x2, x3, x4, x5, x6, x7, x8, x9, x10⟩ := HX.out
          simp only at x0 x1 x2 x3 x4 x5 x6 x7 x8 x9 x10
          have hyn : y < (nn : Int) := by omega
          have HNn : Hid (nn = n) := hnn
          clear hnn
          obtain ⟨t, ht⟩ : ∃ t, Plan.port es y x = t := ⟨_, rfl⟩
          have HTp : Hid (Plan.port es y x = t) := ht
          clear ht
          have HYU : Hid (y ≠ u) := hyu
          clear hyu
          go_wp2_with fail
          refine (rport_any HPr.out.pl y x).mono ?_
          rintro e w3 ⟨rfl, hB3⟩
          rw [HTp.out]
          have q0 := (HX.out.below hB3).c0
          simp only at q0
          have HB3 : Hid (Below w.heap.size w w3) := later HB.out hB3
          have HB3r : Hid (Below w1.heap.size w1 w3) := later HBr.out hB3
          have HO3 : Hid (w3.ownsRow w1.heap.size 3 1 (.slice a7 m c7) (pre ++ [y]).length (zcells (pre ++ [y]))) := owns_below HO1.out hB3
          have hw3 : w1.heap.size ≤ w3.heap.size := HB3r.out.size
          clear hB3 x0 x1 x2 x3 x4 x5 x6 x7 x8 x9 x10 cx1 cx2 HO1 HB HX HPr
          by_cases ht0 : t < 0
          · have g5 : decide (t < 0) = true := decide_eq_true ht0
            have HF : Hid (R = []) := by
              show _ = _
              rw [← HGo.out, Route.go_no HYU.out (by rw [HNx.out, HTp.out]; exact ht0), Route.behind_nil]
            clear ht0
            go_wp2_with fail
            go_ret
            rw [HF.out]
            exact ⟨_, rfl, World.ownsRow_nil _ _ _ _, HB3.out⟩
          · have g5 : decide (t < 0) = false := decide_eq_false ht0
            have HPp : Hid (¬ Plan.port es y (Route.nx rs y u) < 0) := by show ¬ _; rw [HNx.out, HTp.out]; exact ht0
            clear ht0
            cases f with
            | zero =>
              obtain rfl : m = nn := by have := HNn.out; have := HPl.out; have := HF0.out; omega
              have HF : Hid (R = []) := by
                show _ = _
                rw [← HGo.out, Route.go_zero HYU.out, Route.behind_nil]
              have q0' : w3.cell? ⟨w.heap.size, 0, none⟩ = some (.int .i64 (m : Int)) := by rw [q0, HNn.out]
              clear q0 hyn
              have g6 : decide ((m : Int) ≤ (m : Int)) = true := decide_eq_true (Int.le_refl _)
              go_wp2_with fail
              go_ret
              rw [HF.out]
              exact ⟨_, rfl, World.ownsRow_nil _ _ _ _, HB3.out⟩
            | succ f =>
              have hmn : ¬ n ≤ m := by have := HPl.out; have := HF0.out; omega
              have g6 : decide ((n : Int) ≤ (m : Int)) = false := decide_eq_false (by omega)
              have g7 : decide (n ≤ m) = false := decide_eq_false hmn
              have HF : Hid (Route.behind (pre ++ [y]) (Route.go es rs u f x) = R) := by
                show _ = _
                rw [← HGo.out, Route.behind_on pre HYU.out HPp.out, HNx.out]
              have HIn : Hid (0 ≤ x ∧ x < (n : Int)) := by
                have h := HPp.out
                rw [HNx.out] at h
                exact HM.out.in_bes (Route.port_pos' h)
              have hm6 : m ≤ 6 := by omega
              have HML : Hid ((pre ++ [y]).length = m) := by show _ = _; rw [HPl.out]; simp
              go_wp2_with (at_builtin; refine wpList_append_z rfl (.tmp 57) (.tmp 59) rfl w1.heap.size (.slice a7 m c7) (pre ++ [y]) rfl (owns_below HO3.out (fresh _ _)) (by simp; omega) (some ⟨w3.heap.size, 0, none⟩) 1 1 [x] rfl (zr_one w3 _) (fun e => by cases e) (by rw [HML.out]; omega) _ rfl ?_; intro v8 w8 hown8 hB8)
              have HO8 : Hid (w8.ownsRow w1.heap.size 3 1 v8 (pre ++ [y] ++ [x]).length (zcells (pre ++ [y] ++ [x]))) := hown8
              have HBz : Hid (Below w1.heap.size w1 w8) := (HB3r.out.alloc hw3 _).trans hB8
              obtain ⟨a8, c8, hv8, _⟩ := zr_of_owns hown8
              have hl8 : (pre ++ [y] ++ [x]).length = m + 1 := by rw [List.length_append, HML.out]; rfl
              rw [hl8] at hv8
              subst hv8
              go_roundw
              case rel =>
                have R1 : (pre ++ [y]).length + 1 + f = n := by have := HML.out; have := HPl.out; have := HF0.out; omega
                first | exact ⟨pre ++ [y], x, f, rfl, HIn.out, R1, HF.out, HO8.out, HBz.out⟩ | ((repeat apply Exists.intro); exact ⟨⟨rfl, HIn.out, R1, HF.out, HO8.out, HBz.out⟩, rfl⟩)
              case measure => simp [lenV]; omega
    · have HR : Hid (Route.pathOf true (n : Int) es rs v u = []) := by
        refine pathOf_no ?_
        unfold Route.isIn
        rw [Bool.true_and, Bool.and_eq_false_iff, Bool.and_eq_false_iff, Bool.and_eq_false_iff]
        by_cases h1 : 0 ≤ v
        · by_cases h2 : v < (n : Int)
          · by_cases h3 : 0 ≤ u
            · by_cases h4 : u < (n : Int)
              · exact absurd ⟨⟨h1, h2⟩, h3, h4⟩ hin
              · exact .inr (.inr (decide_eq_false h4))
            · exact .inr (.inl (decide_eq_false h3))
          · exact .inl (.inr (decide_eq_false h2))
        · exact .inl (.inl (decide_eq_false h1))
      rw [HR.out]
      clear HR
      by_cases h1 : v < 0
      · have g1 : decide (v < 0) = true := decide_eq_true h1
        clear h1 hin
        go_enter Try.func31, Try.ntmps31
        go_wp2_with fail
        refine (rcheck_is HPb.out.pl HMb.out).mono ?_
        rintro e w1 ⟨rfl, hB1⟩
        have HB1 : Hid (Below w.heap.size w w1) := later HW.out hB1
        have q0 := (HX.out.below hB1).c0
        simp only at q0
        clear hB1 x0 x1 x2 x3 x4 x5 x6 x7 x8 x9 x10 HX HPb HW
        go_wp2_with fail
        go_ret
        exact ⟨_, rfl, World.ownsRow_nil _ _ _ _, HB1.out⟩
      · have g1 : decide (v < 0) = false := decide_eq_false h1
        by_cases h2 : (n : Int) ≤ v
        · have g2 : decide ((n : Int) ≤ v) = true := decide_eq_true h2
          clear h1 h2 hin
          go_enter Try.func31, Try.ntmps31
          go_wp2_with fail
          refine (rcheck_is HPb.out.pl HMb.out).mono ?_
          rintro e w1 ⟨rfl, hB1⟩
          have HB1 : Hid (Below w.heap.size w w1) := later HW.out hB1
          have q0 := (HX.out.below hB1).c0
          simp only at q0
          clear hB1 x0 x1 x2 x3 x4 x5 x6 x7 x8 x9 x10 HX HPb HW
          go_wp2_with fail
          go_ret
          exact ⟨_, rfl, World.ownsRow_nil _ _ _ _, HB1.out⟩
        · have g2 : decide ((n : Int) ≤ v) = false := decide_eq_false h2
          by_cases h3 : u < 0
          · have g3 : decide (u < 0) = true := decide_eq_true h3
            clear h1 h2 h3 hin
            go_enter Try.func31, Try.ntmps31
            go_wp2_with fail
            refine (rcheck_is HPb.out.pl HMb.out).mono ?_
            rintro e w1 ⟨rfl, hB1⟩
            have HB1 : Hid (Below w.heap.size w w1) := later HW.out hB1
            have q0 := (HX.out.below hB1).c0
            simp only at q0
            clear hB1 x0 x1 x2 x3 x4 x5 x6 x7 x8 x9 x10 HX HPb HW
            go_wp2_with fail
            go_ret
            exact ⟨_, rfl, World.ownsRow_nil _ _ _ _, HB1.out⟩
          · have g3 : decide (u < 0) = false := decide_eq_false h3
            have h4 : (n : Int) ≤ u := by omega
            have g4 : decide ((n : Int) ≤ u) = true := decide_eq_true h4
            clear h1 h2 h3 h4 hin
            go_enter Try.func31, Try.ntmps31
            go_wp2_with fail
            refine (rcheck_is HPb.out.pl HMb.out).mono ?_
            rintro e w1 ⟨rfl, hB1⟩
            have HB1 : Hid (Below w.heap.size w w1) := later HW.out hB1
            have q0 := (HX.out.below hB1).c0
            simp only at q0
            clear hB1 x0 x1 x2 x3 x4 x5 x6 x7 x8 x9 x10 HX HPb HW
            go_wp2_with fail
            go_ret
            exact ⟨_, rfl, World.ownsRow_nil _ _ _ _, HB1.out⟩
end Go.Proofs.Ytphaaolnmbadcaa
