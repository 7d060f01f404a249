/-
  The law HostNew of package shunterlaw15, over two numbers that are handed in. Conditions: that package host comes to what HostSpec says.
-/
import Derived.Test.YtfldhjeeoaplfaaHostKnown
namespace Go.Proofs.Ytfldhjeeoaplfaa
open Go.ChangeShapes Go.WideShapes Go.ChangeAt Go.RowKit
set_option linter.unusedVariables false

set_option maxRecDepth 100000 in
set_option maxHeartbeats 4000000 in
theorem hostNew_walk {H : HostRel} (S : HostSpec H) (w : World) (a b : Int) (ha : Hst.Z64 a) (hb : Hst.Z64 b) :
    Calls Try.prog 3 #[.int .i64 a, .int .i64 b] w fun e w' => e = .returned (.bool true) ∧ Below w.heap.size w w' := by
  by_cases hg : (1 ≤ a ∧ a ≤ 3) ∧ 1 ≤ b ∧ b ≤ 8
  · obtain ⟨n, rfl⟩ := Int.eq_ofNat_of_zero_le (a := a) (by omega)
    obtain ⟨q, rfl⟩ := Int.eq_ofNat_of_zero_le (a := b) (by omega)
    have g1 : decide ((1 : Int) ≤ (n : Int)) = true := decide_eq_true (by omega)
    have g2 : decide ((n : Int) ≤ 3) = true := decide_eq_true (by omega)
    have g3 : decide ((1 : Int) ≤ (q : Int)) = true := decide_eq_true (by omega)
    have g4 : decide ((q : Int) ≤ 8) = true := decide_eq_true (by omega)
    have HNq : Hid ((1 ≤ n ∧ n ≤ 3) ∧ (1 ≤ q ∧ q ≤ 8)) := by show _ ∧ _; omega
    clear hg
    go_enter Try.func3, Try.ntmps3
    go_wp2_with fail
    refine (o_new S (w0 := w) (Z := fun _ => False) n q HNq.out.1 HNq.out.2 (Below.refl _ _) hnone).mono ?_
    rintro e w1 ⟨p, rfl, m1, _⟩
    have H1 : Hid (Own1 H (fun _ => False) w w1 p n q [] []) := m1
    clear m1
    go_wp2_with fail
    refine (o_next S H1.out hnone 0 z64_zero (x := zpk) rfl (b := false) rfl (L' := []) rfl).mono ?_
    rintro e w2 ⟨rfl, m2, _⟩
    have H2 : Hid (Own1 H (fun _ => False) w (w2.alloc (.cells #[.int .i64 0, .int .i64 0, .int .i64 0, .int .u32 0] 27)) p n q [] []) := m2.on S (fresh _ _)
    clear m2 H1
    unfold zpk
    dsimp only
    go_upto_region 6 with fail
    generalize w2.alloc _ = u2 at H2 ⊢
    go_wp2_with fail
    refine (hknown_any S u2).mono ?_
    rintro e w3 ⟨rfl, b3⟩
    have H3 : Hid (Own1 H (fun _ => False) w w3 p n q [] []) := H2.out.on S b3
    clear b3 H2
    go_wp2_with fail
    refine (o_waits S H3.out 0 z64_zero (c := 0) rfl).mono ?_
    rintro e w4 ⟨rfl, m4, _⟩
    have H4 : Hid (Own1 H (fun _ => False) w w4 p n q [] []) := m4
    clear m4 H3
    go_wp2_with fail
    refine (o_got S H4.out (by decide) (m' := 0) rfl).mono ?_
    rintro e w5 ⟨a5, c5, rfl, _, m5, _⟩
    have H5 : Hid (Own1 H (fun _ => False) w w5 p n q [] []) := m5.wider S (fun k e => e.elim)
    clear m5 H4
    go_wp2_with fail
    refine (o_put S H5.out hnone ⟨0, 0, (n : Int), 0⟩ ha (z := 1) (Hst.putE_lane (.inr (Int.le_refl _))) rfl).mono ?_
    rintro e w6 ⟨rfl, m6, _⟩
    have e6 : Hst.putL n q [] ⟨0, 0, (n : Int), 0⟩ = [] := Hst.putL_no (by rw [Hst.putE_lane (.inr (Int.le_refl _))]; decide)
    rw [e6] at m6
    have H6 : Hid (Own1 H (fun _ => False) w w6 p n q [] []) := m6
    clear m6 e6 H5
    go_wp2_with fail
    refine (o_put S H6.out hnone ⟨0, 0, -1, 0⟩ (z64_small (by show -1000 ≤ (-1 : Int) ∧ (-1 : Int) ≤ 1000; omega)) (z := 1) (Hst.putE_lane (.inl (by show (-1 : Int) < 0; omega))) rfl).mono ?_
    rintro e w7 ⟨rfl, m7, _⟩
    have H7 : Hid (Below w.heap.size w w7) := m7.below
    clear m7 H6
    go_wp2_with fail
    go_ret
    exact ⟨rfl, H7.out⟩
  · have HG : Hid (¬ ((1 ≤ a ∧ a ≤ 3) ∧ 1 ≤ b ∧ b ≤ 8)) := hg
    have fin : ∀ t : Bool, t = (decide ((1 : Int) ≤ a) && decide (a ≤ 3) && decide ((1 : Int) ≤ b) && decide (b ≤ 8)) → t = false := fun t ht => by
      rw [ht]
      by_cases h1 : 1 ≤ a <;> by_cases h2 : a ≤ 3 <;> by_cases h3 : 1 ≤ b <;> by_cases h4 : b ≤ 8 <;> simp [h1, h2, h3, h4] <;> exact hg ⟨⟨h1, h2⟩, h3, h4⟩
    clear fin hg
    go_enter Try.func3, Try.ntmps3
    by_cases h1 : 1 ≤ a
    · have g1 : decide ((1 : Int) ≤ a) = true := decide_eq_true h1
      by_cases h2 : a ≤ 3
      · have g2 : decide (a ≤ (3 : Int)) = true := decide_eq_true h2
        by_cases h3 : 1 ≤ b
        · have g3 : decide ((1 : Int) ≤ b) = true := decide_eq_true h3
          have g4 : decide (b ≤ (8 : Int)) = false := decide_eq_false (by have := HG.out; omega)
          go_wp2_with fail
          refine (S.new_no a b ha hb HG.out w).mono ?_
          rintro e w1 ⟨rfl, b1⟩
          have H1 : Hid (Below w.heap.size w w1) := b1
          clear b1
          go_wp2_with fail
          refine (hknown_any S w1).mono ?_
          rintro e w2 ⟨rfl, b2⟩
          have H2 : Hid (Below w.heap.size w w2) := later H1.out b2
          clear b2
          go_wp2_with fail
          go_ret
          exact ⟨rfl, H2.out⟩
        · have g3 : decide ((1 : Int) ≤ b) = false := decide_eq_false h3
          go_wp2_with fail
          refine (S.new_no a b ha hb HG.out w).mono ?_
          rintro e w1 ⟨rfl, b1⟩
          have H1 : Hid (Below w.heap.size w w1) := b1
          clear b1
          go_wp2_with fail
          refine (hknown_any S w1).mono ?_
          rintro e w2 ⟨rfl, b2⟩
          have H2 : Hid (Below w.heap.size w w2) := later H1.out b2
          clear b2
          go_wp2_with fail
          go_ret
          exact ⟨rfl, H2.out⟩
      · have g2 : decide (a ≤ (3 : Int)) = false := decide_eq_false h2
        go_wp2_with fail
        refine (S.new_no a b ha hb HG.out w).mono ?_
        rintro e w1 ⟨rfl, b1⟩
        have H1 : Hid (Below w.heap.size w w1) := b1
        clear b1
        go_wp2_with fail
        refine (hknown_any S w1).mono ?_
        rintro e w2 ⟨rfl, b2⟩
        have H2 : Hid (Below w.heap.size w w2) := later H1.out b2
        clear b2
        go_wp2_with fail
        go_ret
        exact ⟨rfl, H2.out⟩
    · have g1 : decide ((1 : Int) ≤ a) = false := decide_eq_false h1
      go_wp2_with fail
      refine (S.new_no a b ha hb HG.out w).mono ?_
      rintro e w1 ⟨rfl, b1⟩
      have H1 : Hid (Below w.heap.size w w1) := b1
      clear b1
      go_wp2_with fail
      refine (hknown_any S w1).mono ?_
      rintro e w2 ⟨rfl, b2⟩
      have H2 : Hid (Below w.heap.size w w2) := later H1.out b2
      clear b2
      go_wp2_with fail
      go_ret
      exact ⟨rfl, H2.out⟩
theorem hostNew_any {H : HostRel} (S : HostSpec H) (w : World) (a0 : Int) (w0 : (Lit.int .i64 a0).wf = true) (a1 : Int) (w1 : (Lit.int .i64 a1).wf = true) :
    Calls Try.prog 3 #[.int .i64 a0, .int .i64 a1] w fun e w' => e = .returned (.bool true) ∧ Below w.heap.size w w' :=
  hostNew_walk S w a0 a1 (bounds_i64 w0) (bounds_i64 w1)
end Go.Proofs.Ytfldhjeeoaplfaa
