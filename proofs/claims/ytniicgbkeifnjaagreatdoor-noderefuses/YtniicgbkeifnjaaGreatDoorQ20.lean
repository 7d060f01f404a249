/-
  Contracts and plain facts that the walks lean on (RefTreeB, RefPlanE, PlanMk). Conditions: none but those that each states.
-/
import Derived.Test.YtniicgbkeifnjaaGreatDoorQ19
namespace Go.Proofs.YtniicgbkeifnjaaGreatDoor
open Go.ChangeShapes Go.WideShapes Go.ChangeAt Go.RowKit
set_option linter.unusedVariables false
set_option maxRecDepth 100000
namespace Tree
theorem pathOf_not {ps : List Int} {v u : Int} (h : (ok ps && isNode ps v && isNode ps u) = false) : pathOf ps v u = [] := by
  unfold pathOf
  rw [h]
  rfl
theorem pathOf_ok {ps : List Int} {v u : Nat} (ho : ok ps = true) (hv : v ≤ ps.length) (hu : u ≤ ps.length) : pathOf ps (v : Int) (u : Int) = path ps v u := by
  unfold pathOf
  have h1 : isNode ps (v : Int) = true := by unfold isNode; simp; omega
  have h2 : isNode ps (u : Int) = true := by unfold isNode; simp; omega
  rw [ho, h1, h2]
  rfl
theorem take_last {l : List Int} {n : Nat} (h : n + 1 ≤ l.length) : (l.take (n + 1)).dropLast = l.take n := by
  rw [List.dropLast_eq_take, List.length_take, List.take_take]
  congr 1
  omega
theorem getD_take {l : List Int} {n k : Nat} (h : k < n) : (l.take n).getD k 0 = l.getD k 0 := by
  rw [List.getD_eq_getElem?_getD, List.getElem?_take_of_lt h, List.getD_eq_getElem?_getD]
theorem strip_yes {f : Nat} {A B : List Int} {i j : Nat} (hi : i + 2 ≤ A.length) (hj : j + 2 ≤ B.length) (h : A.getD i 0 = B.getD j 0) : strip (f + 1) (A.take (i + 2)) (B.take (j + 2)) = strip f (A.take (i + 1)) (B.take (j + 1)) := by
  have la : (A.take (i + 2)).length = i + 2 := by rw [List.length_take]; omega
  have lb : (B.take (j + 2)).length = j + 2 := by rw [List.length_take]; omega
  rw [strip, la, lb, if_pos ⟨by omega, by omega, by rw [Nat.add_sub_cancel, Nat.add_sub_cancel, getD_take (by omega), getD_take (by omega)]; exact h⟩, take_last (by omega), take_last (by omega)]
theorem strip_no {f : Nat} {a b : List Int} (h : ¬ (1 < a.length ∧ 1 < b.length ∧ a.getD (a.length - 2) 0 = b.getD (b.length - 2) 0)) : strip f a b = (a, b) := by
  cases f with
  | zero => rfl
  | succ f => rw [strip, if_neg h]
theorem drop_back {l : List Int} {n k : Nat} (hk : k < n) (hn : n ≤ l.length) : (((l.take n).drop k).reverse) = ((l.take n).drop (k + 1)).reverse ++ [l.getD k 0] := by
  have hl : k < (l.take n).length := by rw [List.length_take]; omega
  rw [List.drop_eq_getElem_cons hl, List.reverse_cons]
  congr 2
  rw [List.getElem_take, List.getD_eq_getElem?_getD, List.getElem?_eq_getElem (by omega)]
  rfl
end Tree
theorem zr_cut {w : World} {a : Option Addr} {n m : Nat} {l : List Int} (h : Zr w a n l) (hm : m ≤ n) : Zr w a m (l.take m) := by
  obtain ⟨h1, h2, h3⟩ := h
  refine ⟨by rw [List.length_take]; omega, by omega, ?_⟩
  rcases h3 with h3 | ⟨b, off, e, hlt, hc⟩
  · exact .inl (by omega)
  · exact .inr ⟨b, off, e, hlt, fun i hi => by rw [hc i (by omega), Tree.getD_take hi]⟩
set_option maxHeartbeats 4000000 in
set_option maxRecDepth 100000 in
theorem rpath_any {w : World} {a : Option Addr} {n c : Nat} {ps : List Int} (h : Zr w a n ps) (hn : n ≤ 17592186044416) (v u : Int) :
    Calls Tryz.prog 85 #[.slice a n c, .int .i64 v, .int .i64 u] w fun e w' => ∃ x, e = .returned x ∧ w'.ownsRow w.heap.size 3 1 x (Tree.pathOf ps v u).length (zcells (Tree.pathOf ps v u)) ∧ Below w.heap.size w w' := by
  have HZ : Hid (Zr w a n ps) := h
  have hln := h.1
  clear h
  obtain ⟨P, hP⟩ : ∃ P, Tree.pathOf ps v u = P := ⟨_, rfl⟩
  have HPt : Hid (Tree.pathOf ps v u = P) := hP
  rw [hP]
  clear hP
  have HR := fun (w : World) (h : Zr w a n ps) => rright_any (c := c) h hn
  cases hok : Tree.ok ps with
  | false =>
    have HE : Hid (P = []) := by
      show _ = _
      rw [← HPt.out, Tree.pathOf_not (by rw [hok]; rfl)]
    go_enter Tryz.func85, Tryz.ntmps85
    go_wp2_with (go_at_call 84; refine (rright_any HZ.out hn).mono ?_; rintro e w' ⟨rfl, hq⟩; obtain rfl := hq.symm; rw [hok])
    go_ret
    exact ⟨_, rfl, by rw [HE.out]; exact World.ownsRow_nil _ _ _ _, Below.refl _ _⟩
  | true =>
    by_cases hin : (0 ≤ v ∧ v ≤ n) ∧ (0 ≤ u ∧ u ≤ n)
    · obtain ⟨⟨hv0, hvn⟩, hu0, hun⟩ := hin
      obtain ⟨v, rfl⟩ : ∃ m : Nat, v = (m : Int) := ⟨v.toNat, by omega⟩
      obtain ⟨u, rfl⟩ : ∃ m : Nat, u = (m : Int) := ⟨u.toNat, by omega⟩
      have HPa : Hid (P = Tree.join (Tree.strip 6 (Tree.ups ps 6 v) (Tree.ups ps 6 u))) := by
        show _ = _
        rw [← HPt.out, Tree.pathOf_ok hok (by omega) (by omega)]
        rfl
      have hla := Tree.ups_len ps 6 v
      have hlb := Tree.ups_len ps 6 u
      have hpa := Tree.ups_pos ps 6 v
      have hpb := Tree.ups_pos ps 6 u
      obtain ⟨A, hA⟩ : ∃ A, Tree.ups ps 6 v = A := ⟨_, rfl⟩
      obtain ⟨B, hB⟩ : ∃ B, Tree.ups ps 6 u = B := ⟨_, rfl⟩
      rw [hA] at HPa hla hpa
      rw [hB] at HPa hlb hpb
      have HU1 : Hid (∀ W : World, Below w.heap.size w W → Calls Tryz.prog 139 #[.slice a n c, .int .i64 v] W fun e w' => ∃ x, e = .returned x ∧ w'.ownsRow W.heap.size 3 1 x A.length (zcells A) ∧ Below W.heap.size W w') := fun W hW => by
        rw [← hA]
        exact rup_any (HZ.out.below hW) hok v (by omega)
      have HU2 : Hid (∀ W : World, Below w.heap.size w W → Calls Tryz.prog 139 #[.slice a n c, .int .i64 u] W fun e w' => ∃ x, e = .returned x ∧ w'.ownsRow W.heap.size 3 1 x B.length (zcells B) ∧ Below W.heap.size W w') := fun W hW => by
        rw [← hB]
        exact rup_any (HZ.out.below hW) hok u (by omega)
      clear hA hB
      go_enter Tryz.func85, Tryz.ntmps85
      go_wp2_with (go_at_call 84; refine (rright_any HZ.out hn).mono ?_; rintro e w' ⟨rfl, hq⟩; obtain rfl := hq.symm; rw [hok])
      refine Calls.mono (HU1.out _ (Below.refl _ _)) ?_
      rintro e w1 ⟨xa, rfl, howa, hB1⟩
      obtain ⟨aa, ca, rfl, hza, hca1, hca2, _, hga⟩ := zr_of_owns howa
      rcases hga with ⟨_, he⟩ | ⟨g1, rfl, hg1, hg1l⟩
      · rw [he] at hpa; simp at hpa
      have HB1 : Hid (Below w.heap.size w w1) := hB1
      have HZA : Hid (Zr w1 (some ⟨g1, 0, none⟩) A.length A) := hza
      clear howa hza hB1
      go_wp2_with fail
      refine Calls.mono (HU2.out _ HB1.out) ?_
      rintro e w2 ⟨xb, rfl, howb, hB2⟩
      obtain ⟨ab, cb, rfl, hzb, hcb1, hcb2, _, hgb⟩ := zr_of_owns howb
      rcases hgb with ⟨_, he⟩ | ⟨g2, rfl, hg2, hg2l⟩
      · rw [he] at hpb; simp at hpb
      have HB2 : Hid (Below w.heap.size w w2) := later HB1.out hB2
      have HZA2 : Hid (Zr w2 (some ⟨g1, 0, none⟩) A.length A) := HZA.out.below hB2
      have HZB2 : Hid (Zr w2 (some ⟨g2, 0, none⟩) B.length B) := hzb
      clear howb hzb hB2 HZA HB1
      obtain ⟨nA, hnA⟩ : ∃ k, A.length = k := ⟨_, rfl⟩
      obtain ⟨nB, hnB⟩ : ∃ k, B.length = k := ⟨_, rfl⟩
      have HLn : Hid (A.length = nA ∧ B.length = nB) := ⟨hnA, hnB⟩
      rw [hnA] at hla hpa HZA2 hca1 ⊢
      rw [hnB] at hlb hpb HZB2 hcb1 ⊢
      clear hnA hnB
      go_wp2_with fail
      go_loopw [7, 8] (fun s7 s8 wr => ∃ la lb f : Nat, s7 = .slice (some ⟨g1, 0, none⟩) la ca ∧ s8 = .slice (some ⟨g2, 0, none⟩) lb cb ∧ 1 ≤ la ∧ la ≤ nA ∧ 1 ≤ lb ∧ lb ≤ nB ∧ la ≤ f + 1 ∧ Tree.strip f (A.take la) (B.take lb) = Tree.strip 6 A B ∧ Below w2.heap.size w2 wr) (fun s7 _ _ => match s7 with | .slice _ k _ => k | _ => 0)
      case atStart => exact ⟨nA, nB, 6, rfl, rfl, hpa, Nat.le_refl _, hpb, Nat.le_refl _, by omega, by rw [List.take_of_length_le (by have := HLn.out; omega), List.take_of_length_le (by have := HLn.out; omega)], Below.refl _ _⟩
      case round =>
        obtain ⟨la, lb, f, rfl, rfl, h1a, h2a, h1b, h2b, hf, hst, hBw⟩ := hrel
        have HSt : Hid (Tree.strip f (A.take la) (B.take lb) = Tree.strip 6 A B) := hst
        have HBw : Hid (Below w2.heap.size w2 wr) := hBw
        clear hst hBw
        by_cases hd : 1 < la ∧ 1 < lb
        · obtain ⟨i, rfl⟩ : ∃ i, la = i + 2 := ⟨la - 2, by omega⟩
          obtain ⟨j, rfl⟩ : ∃ j, lb = j + 2 := ⟨lb - 2, by omega⟩
          obtain ⟨f', rfl⟩ : ∃ f', f = f' + 1 := ⟨f - 1, by omega⟩
          have cA := zr_get (HZA2.out.below HBw.out) i (by omega)
          have cB := zr_get (HZB2.out.below HBw.out) j (by omega)
          rw [Nat.zero_add] at cA cB
          obtain ⟨x, hx⟩ : ∃ x, A.getD i 0 = x := ⟨_, rfl⟩
          obtain ⟨y, hy⟩ : ∃ y, B.getD j 0 = y := ⟨_, rfl⟩
          have HXY : Hid (A.getD i 0 = x ∧ B.getD j 0 = y) := ⟨hx, hy⟩
          rw [hx] at cA
          rw [hy] at cB
          clear hx hy hd
          by_cases hxy : x = y
          · have hxy' : (x == y) = true := by simpa using hxy
            have HN : Hid (Tree.strip f' (A.take (i + 1)) (B.take (j + 1)) = Tree.strip 6 A B) := by
              show _ = _
              rw [← HSt.out, Tree.strip_yes (by have := HLn.out; omega) (by have := HLn.out; omega) (by rw [HXY.out.1, HXY.out.2, hxy])]
            clear hxy
            have e1 : (1 : Int) < (i : Int) + 2 := by omega
            have e2 : (1 : Int) < (j : Int) + 2 := by omega
            go_wp2_with fail
            go_quiet (fail)
            go_wp2_with fail
            go_roundw
            case rel =>
              have R1 : Below w2.heap.size w2 (wr.drewN nq) := later HBw.out (drewN_below wr nq)
              first | exact ⟨i + 1, j + 1, f', rfl, rfl, by omega, by omega, by omega, by omega, by omega, HN.out, R1⟩ | ((repeat apply Exists.intro); exact ⟨⟨i + 1, j + 1, f', rfl, rfl, by omega, by omega, by omega, by omega, by omega, HN.out, R1⟩, rfl⟩)
            case measure => simp
          · have hne : (x == y) = false := by simpa using hxy
            have e1 : (1 : Int) < (i : Int) + 2 := by omega
            have e2 : (1 : Int) < (j : Int) + 2 := by omega
            have HNo : Hid (Tree.strip (f' + 1) (A.take (i + 2)) (B.take (j + 2)) = (A.take (i + 2), B.take (j + 2))) := Tree.strip_no (fun h => by
              have la : (A.take (i + 2)).length = i + 2 := by rw [List.length_take]; have := HLn.out; omega
              have lb : (B.take (j + 2)).length = j + 2 := by rw [List.length_take]; have := HLn.out; omega
              rw [la, lb] at h
              have h3 := h.2.2
              rw [show i + 2 - 2 = i by omega, show j + 2 - 2 = j by omega, Tree.getD_take (by omega), Tree.getD_take (by omega), HXY.out.1, HXY.out.2] at h3
              exact hxy h3)
            clear hxy
            go_wp2_with fail
            go_quiet (fail)
            clear cA cB hne e1 e2 HXY
            generalize i + 2 = la at HSt HNo h1a h2a hf ⊢
            generalize j + 2 = lb at HSt HNo h1b h2b ⊢
            obtain ⟨jj, hjj⟩ : ∃ jj, lb = jj + 1 := ⟨lb - 1, by omega⟩
            have HJJ : Hid (lb = jj + 1) := hjj
            have hjl : jj + 1 ≤ nB := by omega
            have HZA3 : Hid (Zr (wr.drewN nq) (some ⟨g1, 0, none⟩) la (A.take la)) := zr_cut ((HZA2.out.below HBw.out).below (drewN_below wr nq)) h2a
            have HZB3 : Hid (Zr (wr.drewN nq) (some ⟨g2, 0, none⟩) nB B) := (HZB2.out.below HBw.out).below (drewN_below wr nq)
            have HB3 : Hid (Below w.heap.size w (wr.drewN nq)) := later (later HB2.out HBw.out) (drewN_below wr nq)
            have HJ : Hid (P = A.take la ++ (B.take jj).reverse) := by
              show _ = _
              rw [HPa.out, ← HSt.out, HNo.out, Tree.join, hjj, Tree.take_last (by have := HLn.out; omega)]
            have hll : (A.take la).length = la := by rw [List.length_take]; have := HLn.out; omega
            clear hjj
            generalize wr.drewN nq = Wq at HZA3 HZB3 HB3 ⊢
            go_wp2_with (at_builtin; refine wpList_append_z rfl (.tmp 73) (.tmp 74) rfl Wq.heap.size (.slice none 0 0) [] rfl (World.ownsRow_nil _ _ _ _) (Nat.le_refl _) (some ⟨g1, 0, none⟩) la ca (A.take la) rfl HZA3.out (fun e => by cases e) (by simp; omega) (A.take la) rfl ?_; intro v4 w4 hown4 hB4; have HO4 : Hid (w4.ownsRow Wq.heap.size 3 1 v4 (A.take la).length (zcells (A.take la))) := hown4; have HB4 : Hid (Below Wq.heap.size Wq w4) := hB4; clear hown4 hB4)
            go_loopw [9, 10] (fun out i ww => ∃ k : Nat, k ≤ jj ∧ i = .int .i64 ((k : Int) - 1) ∧ ww.ownsRow Wq.heap.size 3 1 out (A.take la ++ ((B.take jj).drop k).reverse).length (zcells (A.take la ++ ((B.take jj).drop k).reverse)) ∧ Below Wq.heap.size Wq ww) (fun _ i _ => (intOf i + 1).toNat)
            case atStart =>
              refine ⟨jj, Nat.le_refl _, by have := HJJ.out; congr 1; omega, ?_, HB4.out⟩
              have e : (B.take jj).drop jj = [] := List.drop_of_length_le (by rw [List.length_take]; omega)
              rw [e, List.reverse_nil, List.append_nil]
              exact HO4.out
            case round =>
              obtain ⟨k, hk, rfl, hown5, hB5⟩ := hrel
              have HO5 : Hid (wr.ownsRow Wq.heap.size 3 1 u9 (A.take la ++ ((B.take jj).drop k).reverse).length (zcells (A.take la ++ ((B.take jj).drop k).reverse))) := hown5
              have HB5 : Hid (Below Wq.heap.size Wq wr) := hB5
              clear hown5 hB5
              have hsz5 := HB5.out.size
              by_cases hk0 : k = 0
              · subst hk0
                have e0 : ((0 : Nat) : Int) - 1 = -1 := rfl
                rw [e0]
                clear e0
                have HE : Hid (A.take la ++ ((B.take jj).drop 0).reverse = P) := by show _ = _; rw [HJ.out, List.drop_zero]
                go_wp2_with fail
                go_ret
                refine ⟨_, rfl, ?_, later HB3.out HB5.out⟩
                have := HO5.out
                rw [HE.out] at this
                exact owns_mono this HB3.out.size
              · obtain ⟨k, rfl⟩ : ∃ k', k = k' + 1 := ⟨k - 1, by omega⟩
                have e1 : ((k + 1 : Nat) : Int) - 1 = k := by omega
                rw [e1]
                have hkl : k < lb := by have := HJJ.out; omega
                have hk0i : (0 : Int) ≤ k := by omega
                have cB := zr_get (HZB3.out.below HB5.out) k (by omega)
                rw [Nat.zero_add] at cB
                obtain ⟨y, hy⟩ : ∃ y, B.getD k 0 = y := ⟨_, rfl⟩
                have HS : Hid ((A.take la ++ ((B.take jj).drop (k + 1)).reverse) ++ [y] = A.take la ++ ((B.take jj).drop k).reverse) := by
                  show _ = _
                  rw [Tree.drop_back (show k < jj by omega) (by have := HLn.out; omega), hy, List.append_assoc]
                rw [hy] at cB
                have hl5 : (A.take la ++ ((B.take jj).drop (k + 1)).reverse).length ≤ 100 := by simp; omega
                clear hy e1
                go_wp2_with (at_builtin; refine wpList_append_z rfl (.tmp 83) (.tmp 88) rfl Wq.heap.size u9 (A.take la ++ ((B.take jj).drop (k + 1)).reverse) rfl (owns_below HO5.out (fresh _ _)) (by simp; omega) (some ⟨wr.heap.size, 0, none⟩) 1 1 [y] rfl (zr_one wr y) (fun e => by cases e) (by omega) _ HS.out ?_; intro v6 w6 hown6 hB6)
                go_roundw
                case rel =>
                  have R1 : Below Wq.heap.size Wq w6 := (HB5.out.alloc hsz5 _).trans hB6
                  first | exact ⟨k, by omega, by go_num, hown6, R1⟩ | ((repeat apply Exists.intro); exact ⟨⟨k, by omega, by go_num, hown6, R1⟩, rfl⟩)
                case measure => simp [intOf]
        · have HNo : Hid (Tree.strip f (A.take la) (B.take lb) = (A.take la, B.take lb)) := Tree.strip_no (fun h => by
            have l1 : (A.take la).length = la := by rw [List.length_take]; have := HLn.out; omega
            have l2 : (B.take lb).length = lb := by rw [List.length_take]; have := HLn.out; omega
            rw [l1, l2] at h
            exact hd ⟨h.1, h.2.1⟩)
          by_cases hd1 : 1 < la
          · have e1 : decide ((1 : Int) < la) = true := decide_eq_true (by omega)
            have e2 : decide ((1 : Int) < lb) = false := decide_eq_false (by omega)
            clear hd hd1
            go_wp2_with fail
            go_quiet (fail)
            obtain ⟨jj, hjj⟩ : ∃ jj, lb = jj + 1 := ⟨lb - 1, by omega⟩
            have HJJ : Hid (lb = jj + 1) := hjj
            have hjl : jj + 1 ≤ nB := by omega
            have HZA3 : Hid (Zr (wr.drewN nq) (some ⟨g1, 0, none⟩) la (A.take la)) := zr_cut ((HZA2.out.below HBw.out).below (drewN_below wr nq)) h2a
            have HZB3 : Hid (Zr (wr.drewN nq) (some ⟨g2, 0, none⟩) nB B) := (HZB2.out.below HBw.out).below (drewN_below wr nq)
            have HB3 : Hid (Below w.heap.size w (wr.drewN nq)) := later (later HB2.out HBw.out) (drewN_below wr nq)
            have HJ : Hid (P = A.take la ++ (B.take jj).reverse) := by
              show _ = _
              rw [HPa.out, ← HSt.out, HNo.out, Tree.join, hjj, Tree.take_last (by have := HLn.out; omega)]
            have hll : (A.take la).length = la := by rw [List.length_take]; have := HLn.out; omega
            clear hjj
            generalize wr.drewN nq = Wq at HZA3 HZB3 HB3 ⊢
            go_wp2_with (at_builtin; refine wpList_append_z rfl (.tmp 73) (.tmp 74) rfl Wq.heap.size (.slice none 0 0) [] rfl (World.ownsRow_nil _ _ _ _) (Nat.le_refl _) (some ⟨g1, 0, none⟩) la ca (A.take la) rfl HZA3.out (fun e => by cases e) (by simp; omega) (A.take la) rfl ?_; intro v4 w4 hown4 hB4; have HO4 : Hid (w4.ownsRow Wq.heap.size 3 1 v4 (A.take la).length (zcells (A.take la))) := hown4; have HB4 : Hid (Below Wq.heap.size Wq w4) := hB4; clear hown4 hB4)
            go_loopw [9, 10] (fun out i ww => ∃ k : Nat, k ≤ jj ∧ i = .int .i64 ((k : Int) - 1) ∧ ww.ownsRow Wq.heap.size 3 1 out (A.take la ++ ((B.take jj).drop k).reverse).length (zcells (A.take la ++ ((B.take jj).drop k).reverse)) ∧ Below Wq.heap.size Wq ww) (fun _ i _ => (intOf i + 1).toNat)
            case atStart =>
              refine ⟨jj, Nat.le_refl _, by have := HJJ.out; congr 1; omega, ?_, HB4.out⟩
              have e : (B.take jj).drop jj = [] := List.drop_of_length_le (by rw [List.length_take]; omega)
              rw [e, List.reverse_nil, List.append_nil]
              exact HO4.out
            case round =>
              obtain ⟨k, hk, rfl, hown5, hB5⟩ := hrel
              have HO5 : Hid (wr.ownsRow Wq.heap.size 3 1 u9 (A.take la ++ ((B.take jj).drop k).reverse).length (zcells (A.take la ++ ((B.take jj).drop k).reverse))) := hown5
              have HB5 : Hid (Below Wq.heap.size Wq wr) := hB5
              clear hown5 hB5
              have hsz5 := HB5.out.size
              by_cases hk0 : k = 0
              · subst hk0
                have e0 : ((0 : Nat) : Int) - 1 = -1 := rfl
                rw [e0]
                clear e0
                have HE : Hid (A.take la ++ ((B.take jj).drop 0).reverse = P) := by show _ = _; rw [HJ.out, List.drop_zero]
                go_wp2_with fail
                go_ret
                refine ⟨_, rfl, ?_, later HB3.out HB5.out⟩
                have := HO5.out
                rw [HE.out] at this
                exact owns_mono this HB3.out.size
              · obtain ⟨k, rfl⟩ : ∃ k', k = k' + 1 := ⟨k - 1, by omega⟩
                have e1 : ((k + 1 : Nat) : Int) - 1 = k := by omega
                rw [e1]
                have hkl : k < lb := by have := HJJ.out; omega
                have hk0i : (0 : Int) ≤ k := by omega
                have cB := zr_get (HZB3.out.below HB5.out) k (by omega)
                rw [Nat.zero_add] at cB
                obtain ⟨y, hy⟩ : ∃ y, B.getD k 0 = y := ⟨_, rfl⟩
                have HS : Hid ((A.take la ++ ((B.take jj).drop (k + 1)).reverse) ++ [y] = A.take la ++ ((B.take jj).drop k).reverse) := by
                  show _ = _
                  rw [Tree.drop_back (show k < jj by omega) (by have := HLn.out; omega), hy, List.append_assoc]
                rw [hy] at cB
                have hl5 : (A.take la ++ ((B.take jj).drop (k + 1)).reverse).length ≤ 100 := by simp; omega
                clear hy e1
                go_wp2_with (at_builtin; refine wpList_append_z rfl (.tmp 83) (.tmp 88) rfl Wq.heap.size u9 (A.take la ++ ((B.take jj).drop (k + 1)).reverse) rfl (owns_below HO5.out (fresh _ _)) (by simp; omega) (some ⟨wr.heap.size, 0, none⟩) 1 1 [y] rfl (zr_one wr y) (fun e => by cases e) (by omega) _ HS.out ?_; intro v6 w6 hown6 hB6)
                go_roundw
                case rel =>
                  have R1 : Below Wq.heap.size Wq w6 := (HB5.out.alloc hsz5 _).trans hB6
                  first | exact ⟨k, by omega, by go_num, hown6, R1⟩ | ((repeat apply Exists.intro); exact ⟨⟨k, by omega, by go_num, hown6, R1⟩, rfl⟩)
                case measure => simp [intOf]
          · have e1 : decide ((1 : Int) < la) = false := decide_eq_false (by omega)
            clear hd hd1
            go_wp2_with fail
            go_quiet (fail)
            obtain ⟨jj, hjj⟩ : ∃ jj, lb = jj + 1 := ⟨lb - 1, by omega⟩
            have HJJ : Hid (lb = jj + 1) := hjj
            have hjl : jj + 1 ≤ nB := by omega
            have HZA3 : Hid (Zr (wr.drewN nq) (some ⟨g1, 0, none⟩) la (A.take la)) := zr_cut ((HZA2.out.below HBw.out).below (drewN_below wr nq)) h2a
            have HZB3 : Hid (Zr (wr.drewN nq) (some ⟨g2, 0, none⟩) nB B) := (HZB2.out.below HBw.out).below (drewN_below wr nq)
            have HB3 : Hid (Below w.heap.size w (wr.drewN nq)) := later (later HB2.out HBw.out) (drewN_below wr nq)
            have HJ : Hid (P = A.take la ++ (B.take jj).reverse) := by
              show _ = _
              rw [HPa.out, ← HSt.out, HNo.out, Tree.join, hjj, Tree.take_last (by have := HLn.out; omega)]
            have hll : (A.take la).length = la := by rw [List.length_take]; have := HLn.out; omega
            clear hjj
            generalize wr.drewN nq = Wq at HZA3 HZB3 HB3 ⊢
            go_wp2_with (at_builtin; refine wpList_append_z rfl (.tmp 73) (.tmp 74) rfl Wq.heap.size (.slice none 0 0) [] rfl (World.ownsRow_nil _ _ _ _) (Nat.le_refl _) (some ⟨g1, 0, none⟩) la ca (A.take la) rfl HZA3.out (fun e => by cases e) (by simp; omega) (A.take la) rfl ?_; intro v4 w4 hown4 hB4; have HO4 : Hid (w4.ownsRow Wq.heap.size 3 1 v4 (A.take la).length (zcells (A.take la))) := hown4; have HB4 : Hid (Below Wq.heap.size Wq w4) := hB4; clear hown4 hB4)
            go_loopw [9, 10] (fun out i ww => ∃ k : Nat, k ≤ jj ∧ i = .int .i64 ((k : Int) - 1) ∧ ww.ownsRow Wq.heap.size 3 1 out (A.take la ++ ((B.take jj).drop k).reverse).length (zcells (A.take la ++ ((B.take jj).drop k).reverse)) ∧ Below Wq.heap.size Wq ww) (fun _ i _ => (intOf i + 1).toNat)
            case atStart =>
              refine ⟨jj, Nat.le_refl _, by have := HJJ.out; congr 1; omega, ?_, HB4.out⟩
              have e : (B.take jj).drop jj = [] := List.drop_of_length_le (by rw [List.length_take]; omega)
              rw [e, List.reverse_nil, List.append_nil]
              exact HO4.out
            case round =>
              obtain ⟨k, hk, rfl, hown5, hB5⟩ := hrel
              have HO5 : Hid (wr.ownsRow Wq.heap.size 3 1 u9 (A.take la ++ ((B.take jj).drop k).reverse).length (zcells (A.take la ++ ((B.take jj).drop k).reverse))) := hown5
              have HB5 : Hid (Below Wq.heap.size Wq wr) := hB5
              clear hown5 hB5
              have hsz5 := HB5.out.size
              by_cases hk0 : k = 0
              · subst hk0
                have e0 : ((0 : Nat) : Int) - 1 = -1 := rfl
                rw [e0]
                clear e0
                have HE : Hid (A.take la ++ ((B.take jj).drop 0).reverse = P) := by show _ = _; rw [HJ.out, List.drop_zero]
                go_wp2_with fail
                go_ret
                refine ⟨_, rfl, ?_, later HB3.out HB5.out⟩
                have := HO5.out
                rw [HE.out] at this
                exact owns_mono this HB3.out.size
              · obtain ⟨k, rfl⟩ : ∃ k', k = k' + 1 := ⟨k - 1, by omega⟩
                have e1 : ((k + 1 : Nat) : Int) - 1 = k := by omega
                rw [e1]
                have hkl : k < lb := by have := HJJ.out; omega
                have hk0i : (0 : Int) ≤ k := by omega
                have cB := zr_get (HZB3.out.below HB5.out) k (by omega)
                rw [Nat.zero_add] at cB
                obtain ⟨y, hy⟩ : ∃ y, B.getD k 0 = y := ⟨_, rfl⟩
                have HS : Hid ((A.take la ++ ((B.take jj).drop (k + 1)).reverse) ++ [y] = A.take la ++ ((B.take jj).drop k).reverse) := by
                  show _ = _
                  rw [Tree.drop_back (show k < jj by omega) (by have := HLn.out; omega), hy, List.append_assoc]
                rw [hy] at cB
                have hl5 : (A.take la ++ ((B.take jj).drop (k + 1)).reverse).length ≤ 100 := by simp; omega
                clear hy e1
                go_wp2_with (at_builtin; refine wpList_append_z rfl (.tmp 83) (.tmp 88) rfl Wq.heap.size u9 (A.take la ++ ((B.take jj).drop (k + 1)).reverse) rfl (owns_below HO5.out (fresh _ _)) (by simp; omega) (some ⟨wr.heap.size, 0, none⟩) 1 1 [y] rfl (zr_one wr y) (fun e => by cases e) (by omega) _ HS.out ?_; intro v6 w6 hown6 hB6)
                go_roundw
                case rel =>
                  have R1 : Below Wq.heap.size Wq w6 := (HB5.out.alloc hsz5 _).trans hB6
                  first | exact ⟨k, by omega, by go_num, hown6, R1⟩ | ((repeat apply Exists.intro); exact ⟨⟨k, by omega, by go_num, hown6, R1⟩, rfl⟩)
                case measure => simp [intOf]
    · have HE : Hid (P = []) := by
        show _ = _
        rw [← HPt.out]
        refine Tree.pathOf_not ?_
        rw [← Bool.not_eq_true]
        intro h
        simp only [Bool.and_eq_true, Tree.isNode, decide_eq_true_eq] at h
        exact hin (by omega)
      have HN : Hid (∀ w' : World, Below w.heap.size w w' → ∃ x, Ending.returned (.slice none 0 0) = Ending.returned x ∧ w'.ownsRow w.heap.size 3 1 x P.length (zcells P) ∧ Below w.heap.size w w') := fun w' hw => ⟨_, rfl, by rw [HE.out]; exact World.ownsRow_nil _ _ _ _, hw⟩
      by_cases h1 : v < 0
      · go_enter Tryz.func85, Tryz.ntmps85
        go_wp2_with (go_at_call 84; refine (rright_any HZ.out hn).mono ?_; rintro e w' ⟨rfl, hq⟩; obtain rfl := hq.symm; rw [hok])
        go_ret
        exact HN.out _ (Below.refl _ _)
      · by_cases h2 : (n : Int) < v
        · go_enter Tryz.func85, Tryz.ntmps85
          go_wp2_with (go_at_call 84; refine (rright_any HZ.out hn).mono ?_; rintro e w' ⟨rfl, hq⟩; obtain rfl := hq.symm; rw [hok])
          go_ret
          exact HN.out _ (Below.refl _ _)
        · by_cases h3 : u < 0
          · go_enter Tryz.func85, Tryz.ntmps85
            go_wp2_with (go_at_call 84; refine (rright_any HZ.out hn).mono ?_; rintro e w' ⟨rfl, hq⟩; obtain rfl := hq.symm; rw [hok])
            go_ret
            exact HN.out _ (Below.refl _ _)
          · have h4 : (n : Int) < u := by omega
            go_enter Tryz.func85, Tryz.ntmps85
            go_wp2_with (go_at_call 84; refine (rright_any HZ.out hn).mono ?_; rintro e w' ⟨rfl, hq⟩; obtain rfl := hq.symm; rw [hok])
            go_ret
            exact HN.out _ (Below.refl _ _)
end Go.Proofs.YtniicgbkeifnjaaGreatDoor
namespace Go.Proofs.YtniicgbkeifnjaaGreatDoor
open Go.ChangeShapes Go.WideShapes Go.ChangeAt Go.RowKit
set_option linter.unusedVariables false
set_option maxRecDepth 100000
theorem gdE : Tryz.prog.eqGuardType Tryz.prog.depth 43 = false := by kernel_rfl
theorem eqE (w : World) (a b c d : Int) : (binOp .eql 43 (.agg #[.int .i64 a, .int .i64 b]) (.agg #[.int .i64 c, .int .i64 d])).run Tryz.prog w = .ok (.bool (a == c && b == d)) w := by
  have u3 := Tryz.underlying3
  have a3 := Tryz.isAgg3
  have z3 := Tryz.sizeOf3
  have hS : Tryz.prog.underlying 43 = some (.struct (Tryz.prog.fieldsOf 43)) := by kernel_rfl
  have hp : Tryz.prog.stoodInHeld 43 = false := by kernel_rfl
  rw [run_eql_struct, show (10000 : Nat) = 9999 + 1 from rfl, run_equalIn_agg w 9999 43 _ _ hS hp]
  simp only [Program.fieldsOf, Tryz.underlying43]
  go_simp
  by_cases h1 : a = c <;> by_cases h2 : b = d <;> simp [h1, h2]
namespace Plan
def edge (es : List (Int × Int)) (k : Nat) : Int × Int := es.getD k (0, 0)
theorem edge_mem {es : List (Int × Int)} {k : Nat} (h : k < es.length) : edge es k ∈ es := by
  unfold edge
  rw [List.getD_eq_getElem?_getD, List.getElem?_eq_getElem h]
  exact List.getElem_mem h
theorem mem_edge {es : List (Int × Int)} {e : Int × Int} (h : e ∈ es) : ∃ k, k < es.length ∧ edge es k = e := by
  obtain ⟨k, hk, rfl⟩ := List.getElem_of_mem h
  exact ⟨k, hk, by unfold edge; rw [List.getD_eq_getElem?_getD, List.getElem?_eq_getElem hk]; rfl⟩
def Good (N : Int) (e : Int × Int) : Prop := 0 ≤ e.1 ∧ e.1 < e.2 ∧ e.2 < N
theorem all_good (N : Int) (es : List (Int × Int)) : es.all (fun e => decide (0 ≤ e.1) && decide (e.1 < e.2) && decide (e.2 < N)) = true ↔ ∀ e ∈ es, Good N e := by
  rw [List.all_eq_true]
  constructor
  · intro h e he
    have := h e he
    simp only [Bool.and_eq_true, decide_eq_true_eq] at this
    exact ⟨this.1.1, this.1.2, this.2⟩
  · intro h e he
    have := h e he
    simp only [Bool.and_eq_true, decide_eq_true_eq]
    exact ⟨⟨this.1, this.2.1⟩, this.2.2⟩
theorem edgesOk_iff (N : Int) (es : List (Int × Int)) : edgesOk N es = true ↔ (∀ e ∈ es, Good N e) ∧ es.Nodup ∧ es.length ≤ 15 := by
  unfold edgesOk
  rw [Bool.and_eq_true, Bool.and_eq_true, all_good, decide_eq_true_eq, decide_eq_true_eq, and_assoc]
end Plan
end Go.Proofs.YtniicgbkeifnjaaGreatDoor
namespace Go.Proofs.YtniicgbkeifnjaaGreatDoor.Plan
set_option linter.unusedVariables false
set_option maxRecDepth 100000
def tri : Nat → Nat
  | 0 => 0
  | b + 1 => tri b + b
def bitAt (J k : Nat) : Nat := J / 2 ^ k
theorem bitAt_zero (J : Nat) : bitAt J 0 = J := by simp [bitAt]
theorem bitAt_succ (J k : Nat) : bitAt J (k + 1) = bitAt J k / 2 := by
  unfold bitAt
  rw [Nat.pow_succ, Nat.div_div_eq_div_mul]
theorem bitAt_le (J k : Nat) : bitAt J k ≤ J := Nat.div_le_self _ _
def part (J b a : Nat) : List (Int × Int) := ((List.range a).filter fun x => bitAt J (tri b + x) % 2 == 1).map fun (x : Nat) => ((x : Int), (b : Int))
def full (J : Nat) : Nat → List (Int × Int)
  | 0 => []
  | b + 1 => full J b ++ part J b b
theorem part_zero (J b : Nat) : part J b 0 = [] := rfl
theorem part_hit {J b a : Nat} (h : bitAt J (tri b + a) % 2 = 1) : part J b (a + 1) = part J b a ++ [((a : Int), (b : Int))] := by
  unfold part
  rw [List.range_succ, List.filter_append, List.map_append]
  simp [h]
theorem part_miss {J b a : Nat} (h : bitAt J (tri b + a) % 2 ≠ 1) : part J b (a + 1) = part J b a := by
  unfold part
  rw [List.range_succ, List.filter_append, List.map_append]
  have : (bitAt J (tri b + a) % 2 == 1) = false := by simpa using h
  simp [this]
theorem mem_part {J b a : Nat} {e : Int × Int} (h : e ∈ part J b a) : ∃ x : Nat, x < a ∧ e = ((x : Int), (b : Int)) := by
  unfold part at h
  obtain ⟨x, hx, rfl⟩ := List.mem_map.1 h
  have := List.mem_range.1 (List.mem_filter.1 hx).1
  exact ⟨x, this, rfl⟩
theorem part_len (J b a : Nat) : (part J b a).length ≤ a := by
  unfold part
  rw [List.length_map]
  have := List.length_filter_le (fun x => bitAt J (tri b + x) % 2 == 1) (List.range a)
  rw [List.length_range] at this
  exact this
theorem part_nodup (J b a : Nat) : (part J b a).Nodup := by
  unfold part
  refine List.pairwise_map.2 ?_
  refine List.Pairwise.imp (fun {x y} h => ?_) ((List.nodup_range (n := a)).filter _)
  intro e
  simp only [Prod.mk.injEq] at e
  exact h (by omega)
theorem mem_full {J : Nat} : ∀ {b : Nat} {e : Int × Int}, e ∈ full J b → ∃ x y : Nat, x < y ∧ y < b ∧ e = ((x : Int), (y : Int))
  | 0, e, h => by simp [full] at h
  | b + 1, e, h => by
    rw [full, List.mem_append] at h
    rcases h with h | h
    · obtain ⟨x, y, h1, h2, h3⟩ := mem_full h
      exact ⟨x, y, h1, by omega, h3⟩
    · obtain ⟨x, hx, h3⟩ := mem_part h
      exact ⟨x, b, hx, by omega, h3⟩
theorem full_nodup (J : Nat) : ∀ b : Nat, (full J b).Nodup
  | 0 => List.nodup_nil
  | b + 1 => by
    rw [full, List.nodup_append]
    refine ⟨full_nodup J b, part_nodup J b b, fun e he f hf hef => ?_⟩
    obtain ⟨x, y, h1, h2, h3⟩ := mem_full he
    obtain ⟨z, hz, h4⟩ := mem_part hf
    rw [h3, h4] at hef
    simp only [Prod.mk.injEq] at hef
    omega
theorem full_len (J : Nat) : ∀ b : Nat, (full J b).length ≤ tri b
  | 0 => by simp [full, tri]
  | b + 1 => by
    have h1 := full_len J b
    have h2 := part_len J b b
    rw [full, List.length_append, tri]
    omega
theorem tri_le {b : Nat} (h : b ≤ 6) : tri b ≤ 15 := by
  have : b = 0 ∨ b = 1 ∨ b = 2 ∨ b = 3 ∨ b = 4 ∨ b = 5 ∨ b = 6 := by omega
  rcases this with rfl | rfl | rfl | rfl | rfl | rfl | rfl <;> decide
def mkN (nodes : Nat) : Nat := 2 + nodes % 5
def mkL (more : Nat) : Nat := 1 + more % 3
def mkNum (nodes room more : Nat) : Num := ⟨(mkN nodes : Nat), (mkL more : Nat), (1 + room % 8 : Nat), (1 + room / 8 % 8 : Nat), (1 + more / 3 % 4 : Nat), (1 + more / 12 % 8 : Nat), 64⟩
def mkW (more k : Nat) : List Int := (List.range k).map fun i => ((1 + (i + more) % 5 : Nat) : Int)
theorem mkW_succ (more k : Nat) : mkW more (k + 1) = mkW more k ++ [((1 + (k + more) % 5 : Nat) : Int)] := by
  unfold mkW
  rw [List.range_succ, List.map_append]
  rfl
theorem mkW_len (more k : Nat) : (mkW more k).length = k := by simp [mkW]
theorem mkW_mem {more k : Nat} {x : Int} (h : x ∈ mkW more k) : 1 ≤ x ∧ x ≤ 5 := by
  unfold mkW at h
  obtain ⟨i, _, rfl⟩ := List.mem_map.1 h
  omega
theorem mkW_ok (more : Nat) : wsOk (mkW more (mkL more)) = true := by
  unfold wsOk
  rw [mkW_len]
  have h1 : (mkW more (mkL more)).all (fun x => bnd x 1 5) = true := by
    rw [List.all_eq_true]
    intro x hx
    have := mkW_mem hx
    unfold bnd
    simp [this.1, this.2]
  have h2 : 1 ≤ mkL more ∧ mkL more ≤ 3 := by unfold mkL; omega
  rw [h1]
  simp [h2.1, h2.2]
theorem mkN_b (nodes : Nat) : 2 ≤ mkN nodes ∧ mkN nodes ≤ 6 := by unfold mkN; omega
theorem mk_fine (nodes room more : Nat) : fine (mkNum nodes room more) = true := by
  have := mkN_b nodes
  have h2 : 1 ≤ mkL more ∧ mkL more ≤ 3 := by unfold mkL; omega
  unfold fine mkNum bnd
  simp only [Bool.and_eq_true, decide_eq_true_eq]
  omega
end Go.Proofs.YtniicgbkeifnjaaGreatDoor.Plan
