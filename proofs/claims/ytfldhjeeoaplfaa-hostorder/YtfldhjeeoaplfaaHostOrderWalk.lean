/-
  The law HostOrder of package shunterlaw15, over a byte and a slice of numbers that are handed in. Conditions: that package host comes to what HostSpec says.
-/
import Derived.Test.YtfldhjeeoaplfaaHostKnown
import Derived.Test.YtfldhjeeoaplfaaPktArg
import Derived.Test.YtfldhjeeoaplfaaSince2
namespace Go.Proofs.Ytfldhjeeoaplfaa
open Go.ChangeShapes Go.WideShapes Go.ChangeAt Go.RowKit
set_option linter.unusedVariables false

namespace Hst
/-- packets of lane 1 that bear the numbers -/
def ones (us : List Int) : List Pk := us.map fun z => ⟨0, 0, 1, z⟩
theorem ones_len (us : List Int) : (ones us).length = us.length := List.length_map _
theorem ones_lane (us : List Int) : lane (ones us) 1 = ones us := by
  unfold lane ones
  rw [List.filter_eq_self]
  intro y hy
  obtain ⟨z, _, rfl⟩ := List.mem_map.1 hy
  simp [isL]
theorem ones_zero (us : List Int) : lane (ones us) 0 = [] := by
  unfold lane ones
  rw [List.filter_eq_nil_iff]
  intro y hy
  obtain ⟨z, _, rfl⟩ := List.mem_map.1 hy
  simp [isL]
theorem ones_snoc (us : List Int) (z : Int) : ones us ++ [⟨0, 0, 1, z⟩] = ones (us ++ [z]) := by simp [ones]
theorem ones_cons (z : Int) (us : List Int) : hdk (lane (ones (z :: us)) 1) = ⟨0, 0, 1, z⟩ ∧ (!(lane (ones (z :: us)) 1).isEmpty) = true ∧ drop1 (ones (z :: us)) 1 = ones us := by
  rw [ones_lane]
  refine ⟨rfl, rfl, ?_⟩
  unfold drop1 ones
  rw [List.map_cons, List.eraseP_cons_of_pos (by simp [isL])]
theorem take_one {us : List Int} {k : Nat} (h : k < us.length) : us.take (k + 1) = us.take k ++ [us.getD k 0] := by
  rw [List.take_succ_eq_append_getElem h, List.getD_eq_getElem?_getD, List.getElem?_eq_getElem h]
  rfl
/-- the k-th goes in: as long as there is room -/
theorem ones_put {us : List Int} {k q : Nat} (h : k < us.length) : putE 2 q (ones (us.take (min k q))) ⟨0, 0, 1, us.getD k 0⟩ = (if k < q then 0 else 150) ∧ putL 2 q (ones (us.take (min k q))) ⟨0, 0, 1, us.getD k 0⟩ = ones (us.take (min (k + 1) q)) := by
  have hl : ¬ ((1 : Int) < 0 ∨ ((2 : Nat) : Int) ≤ 1) := by omega
  by_cases hk : k < q
  · have e : putE 2 q (ones (us.take (min k q))) ⟨0, 0, 1, us.getD k 0⟩ = 0 := putE_ok hl (by
      show ¬ q ≤ (lane (ones (us.take (min k q))) 1).length
      rw [ones_lane, ones_len, List.length_take]; omega)
    rw [if_pos hk]
    refine ⟨e, ?_⟩
    rw [putL_yes e, Nat.min_eq_left (by omega), Nat.min_eq_left (by omega), ones_snoc, take_one h]
  · have e : putE 2 q (ones (us.take (min k q))) ⟨0, 0, 1, us.getD k 0⟩ = 150 := putE_full hl (by
      show q ≤ (lane (ones (us.take (min k q))) 1).length
      rw [ones_lane, ones_len, List.length_take]; omega)
    rw [if_neg hk]
    refine ⟨e, ?_⟩
    rw [putL_no (by rw [e]; decide), Nat.min_eq_right (by omega), Nat.min_eq_right (by omega)]
theorem drop_one {us : List Int} {k m : Nat} (h : k < m) (hm : m ≤ us.length) : (us.take m).drop k = us.getD k 0 :: (us.take m).drop (k + 1) := by
  have hl : k < (us.take m).length := by rw [List.length_take]; omega
  rw [List.drop_eq_getElem_cons hl, List.getElem_take, List.getD_eq_getElem?_getD, List.getElem?_eq_getElem (by omega)]
  rfl
end Hst
set_option maxRecDepth 100000 in
set_option maxHeartbeats 8000000 in
theorem hostOrder_walk {H : HostRel} (S : HostSpec H) (w : World) (a : Nat) (ha : a < 256) (b : Option Addr) (len cap : Nat) (us : List Int) (hu : Us w b len us) :
    Calls Try.prog 6 #[.int .u8 a, .slice b len cap] w fun e w' => e = .returned (.bool true) ∧ Below w.heap.size w w' := by
  obtain ⟨k, hk⟩ : ∃ k : Nat, (a : Int) % 8 = k := ⟨a % 8, by omega⟩
  obtain ⟨q, hq⟩ : ∃ q : Nat, (1 : Int) + k = q := ⟨1 + k, by omega⟩
  have HQ : Hid (1 ≤ q ∧ q ≤ 8) := by show _ ∧ _; omega
  have hk8 : k < 8 := by omega
  have HU : Hid (Us w b len us) := hu
  have HUl : Hid (us.length = len) := hu.1
  have hlen := hu.2.1
  clear hu
  by_cases h100 : 100 < len
  · have g1 : decide ((100 : Int) < (len : Int)) = true := decide_eq_true (by omega)
    clear h100
    go_enter Try.func6, Try.ntmps6
    go_wp2_with fail
    refine (o_new S (w0 := w) (Z := fun _ => False) 2 q (by omega) HQ.out (Below.refl _ _) hnone).mono ?_
    rintro e w1 ⟨p, rfl, m1, _⟩
    have H1 : Hid (Below w.heap.size w w1) := m1.below
    clear m1
    go_wp2_with fail
    refine (hknown_any S w1).mono ?_
    rintro e w2 ⟨rfl, b2⟩
    have H2 : Hid (Below w.heap.size w w2) := later H1.out b2
    clear b2
    go_wp2_with fail
    go_ret
    exact ⟨rfl, H2.out⟩
  · have g1 : decide ((100 : Int) < (len : Int)) = false := decide_eq_false (by omega)
    obtain ⟨m, hm⟩ : ∃ m, min q len = m := ⟨_, rfl⟩
    have hmI : (if (len : Int) < (q : Int) then (len : Int) else (q : Int)) = (m : Int) := by split <;> omega
    have hmN : (if len < q then len else q) = m := by split <;> omega
    have HMm : Hid (min q len = m ∧ m ≤ len ∧ m ≤ 8) := by have := HQ.out; show _ ∧ _ ∧ _; omega
    clear hm
    go_enter Try.func6, Try.ntmps6
    go_wp2_with fail
    refine (o_new S (w0 := w) (Z := fun _ => False) 2 q (by omega) HQ.out (Below.refl _ _) hnone).mono ?_
    rintro e w1 ⟨p, rfl, m1, _⟩
    have H1 : Hid (Own1 H (fun _ => False) w w1 p 2 q (Hst.ones (us.take (min 0 q))) []) := by rw [Nat.zero_min]; exact m1
    clear m1
    go_wp2_with fail
    clear hk hq
    go_loopw [7, 8] (fun i _ wr => ∃ k : Nat, k ≤ len ∧ i = .int .i64 k ∧ Own1 H (fun _ => False) w wr p 2 q (Hst.ones (us.take (min k q))) []) (fun i _ _ => len - (intOf i).toNat)
    case atStart => exact ⟨0, Nat.zero_le _, rfl, H1.out⟩
    case round =>
      obtain ⟨i, hi, rfl, hm⟩ := hrel
      have HM : Hid (Own1 H (fun _ => False) w wr p 2 q (Hst.ones (us.take (min i q))) []) := hm
      clear hm H1
      by_cases hil : i < len
      · have hiI : (i : Int) < (len : Int) := by omega
        obtain ⟨ub, uo, eu, cu⟩ := (HU.out.below HM.out.below).at hil
        subst eu
        obtain ⟨e1, e2⟩ := Hst.ones_put (us := us) (k := i) (q := q) (by have := HUl.out; omega)
        obtain ⟨y, hy⟩ : ∃ y, us.getD i 0 = y := ⟨_, rfl⟩
        rw [hy] at cu e1 e2
        clear hy
        by_cases hiq : i < q
        · rw [if_pos hiq] at e1
          have HE : Hid (Hst.putE 2 q (Hst.ones (us.take (min i q))) ⟨0, 0, 1, y⟩ = 0 ∧ Hst.putL 2 q (Hst.ones (us.take (min i q))) ⟨0, 0, 1, y⟩ = Hst.ones (us.take (min (i + 1) q))) := ⟨e1, e2⟩
          have g2 : decide ((i : Int) < (q : Int)) = true := decide_eq_true (by omega)
          have g3 : decide (i < q) = true := decide_eq_true hiq
          clear e1 e2
          go_wp2_with fail
          refine (o_put S HM.out hnone ⟨0, 0, 1, y⟩ (z64_small (by show -1000 ≤ (1 : Int) ∧ (1 : Int) ≤ 1000; omega)) HE.out.1 HE.out.2).mono ?_
          rintro e w2 ⟨rfl, m2, _⟩
          have H2 : Hid (Own1 H (fun _ => False) w w2 p 2 q (Hst.ones (us.take (min (i + 1) q))) []) := m2
          clear m2
          go_wp2_with fail
          go_roundw
          case rel => first | exact ⟨i + 1, by omega, by go_num, H2.out⟩ | ((repeat apply Exists.intro); exact ⟨⟨i + 1, by omega, by go_num, H2.out⟩, rfl⟩)
          case measure => simp [intOf]; omega
        · rw [if_neg hiq] at e1
          have HE : Hid (Hst.putE 2 q (Hst.ones (us.take (min i q))) ⟨0, 0, 1, y⟩ = 150 ∧ Hst.putL 2 q (Hst.ones (us.take (min i q))) ⟨0, 0, 1, y⟩ = Hst.ones (us.take (min (i + 1) q))) := ⟨e1, e2⟩
          have g2 : decide ((i : Int) < (q : Int)) = false := decide_eq_false (by omega)
          have g3 : decide (i < q) = false := decide_eq_false hiq
          clear e1 e2
          go_wp2_with fail
          refine (o_put S HM.out hnone ⟨0, 0, 1, y⟩ (z64_small (by show -1000 ≤ (1 : Int) ∧ (1 : Int) ≤ 1000; omega)) HE.out.1 HE.out.2).mono ?_
          rintro e w2 ⟨rfl, m2, _⟩
          have H2 : Hid (Own1 H (fun _ => False) w w2 p 2 q (Hst.ones (us.take (min (i + 1) q))) []) := m2
          clear m2
          go_wp2_with fail
          go_roundw
          case rel => first | exact ⟨i + 1, by omega, by go_num, H2.out⟩ | ((repeat apply Exists.intro); exact ⟨⟨i + 1, by omega, by go_num, H2.out⟩, rfl⟩)
          case measure => simp [intOf]; omega
      · obtain rfl : i = len := by omega
        have HL : Hid (Hst.ones (us.take (min i q)) = Hst.ones ((us.take m).drop 0)) := by show _ = _; rw [List.drop_zero, Nat.min_comm, HMm.out.1]
        have H2 : Hid (Own1 H (fun _ => False) w wr p 2 q (Hst.ones ((us.take m).drop 0)) []) := by show Own1 _ _ _ _ _ _ _ _ _; rw [← HL.out]; exact HM.out
        have HW1 : Hid ((Hst.lane (Hst.ones ((us.take m).drop 0)) 1).length = m) := by
          show _ = _
          rw [Hst.ones_lane, Hst.ones_len, List.drop_zero, List.length_take]
          have := HMm.out.2.1
          have := HUl.out
          omega
        have HW0 : Hid ((Hst.lane (Hst.ones ((us.take m).drop 0)) 0).length = 0) := by show _ = _; rw [Hst.ones_zero]; rfl
        clear HM HL
        go_wp2_with fail
        · obtain rfl : i = m := by rw [if_pos h] at hmN; exact hmN
          refine (o_waits S H2.out 1 (z64_small (by omega)) HW1.out).mono ?_
          rintro e w3 ⟨rfl, m3, _⟩
          have H3 : Hid (Own1 H (fun _ => False) w w3 p 2 q (Hst.ones ((us.take i).drop 0)) []) := m3
          clear m3 H2
          go_wp2_with fail
          refine (o_waits S H3.out 0 z64_zero HW0.out).mono ?_
          rintro e w4 ⟨rfl, m4, _⟩
          have H4 : Hid (Own1 H (fun _ => False) w w4 p 2 q (Hst.ones ((us.take i).drop 0)) []) := m4
          clear m4 H3
          go_wp2_with fail
          go_loopw [10] (fun v wr => ∃ k : Nat, k ≤ i ∧ v = .int .i64 k ∧ Own1 H (fun _ => False) w wr p 2 q (Hst.ones ((us.take i).drop k)) []) (fun v _ => i - (intOf v).toNat)
          case atStart => exact ⟨0, Nat.zero_le _, rfl, H4.out⟩
          case round =>
            obtain ⟨j, hj, rfl, hmj⟩ := hrel
            have HM : Hid (Own1 H (fun _ => False) w wr p 2 q (Hst.ones ((us.take i).drop j)) []) := hmj
            clear hmj H4
            by_cases hjm : j < i
            · have hjI : (j : Int) < (i : Int) := by omega
              have hjl : j < i := by have := HMm.out.2.1; omega
              have hd := Hst.drop_one (us := us) hjm (by have := HUl.out; have := HMm.out.2.1; omega)
              obtain ⟨y, hy⟩ : ∃ y, us.getD j 0 = y := ⟨_, rfl⟩
              have HY : Hid (us.getD j 0 = y) := hy
              rw [hy] at hd
              obtain ⟨e1, e2, e3⟩ := Hst.ones_cons y ((us.take i).drop (j + 1))
              rw [← hd] at e1 e2 e3
              have HE : Hid (_ ∧ _ ∧ _) := ⟨e1, e2, e3⟩
              clear hd hy e1 e2 e3
              go_wp2_with fail
              refine (o_next S HM.out hnone 1 (z64_small (by omega)) HE.out.1 HE.out.2.1 HE.out.2.2).mono ?_
              rintro e w5 ⟨rfl, m5, _⟩
              have H5 : Hid (Own1 H (fun _ => False) w (w5.alloc (.cells #[.int .i64 0, .int .i64 0, .int .i64 1, .int .u32 y] 27)) p 2 q (Hst.ones ((us.take i).drop (j + 1))) []) := m5.on S (fresh _ _)
              have p5 : (w5.alloc (.cells #[.int .i64 0, .int .i64 0, .int .i64 1, .int .u32 y] 27)).cell? ⟨w5.heap.size, 3, none⟩ = some (.int .u32 y) := by simp
              clear m5 HE
              dsimp only
              go_upto_region 18 with fail
              generalize w5.alloc _ = u5 at H5 p5 ⊢
              obtain ⟨g5, hg5⟩ : ∃ g, w5.heap.size = g := ⟨_, rfl⟩
              rw [hg5] at p5 ⊢
              obtain ⟨ub, uo, eu, cu⟩ := (HU.out.below H5.out.below).at hjl
              subst eu
              rw [HY.out] at cu
              have hne := Since.any u5
              have d1 := fun j : Since u5 => j.cell p5
              have d2 := fun j : Since u5 => j.cell cu
              have g9 : (y != y) = false := by simp
              clear hg5
              go_wp2_with fail
              refine region_since (u := u5) (by kernel_rfl) (by kernel_rfl) (Below.refl _ _) ?_
              repeat (go_big_quiet_step (first | fail))
              refine wpQuiet_nil ?_
              intro _ hw'
              obtain ⟨nq, hw2⟩ := hw'
              subst hw2
              have H6 : Hid (Own1 H (fun _ => False) w nq.w p 2 q (Hst.ones ((us.take i).drop (j + 1))) []) := H5.out.on S nq.h
              clear d1 d2 hne p5 cu H5
              go_wp2_with fail
              go_roundw
              case rel => first | exact ⟨j + 1, by omega, by go_num, H6.out⟩ | ((repeat apply Exists.intro); exact ⟨⟨j + 1, by omega, by go_num, H6.out⟩, rfl⟩)
              case measure => simp [intOf]; omega
            · have hjI : ¬ (j : Int) < (i : Int) := by omega
              have HD : Hid (Hst.ones ((us.take i).drop j) = []) := by
                show _ = _
                rw [List.drop_eq_nil_of_le (by rw [List.length_take]; omega)]
                rfl
              have H5 : Hid (Own1 H (fun _ => False) w wr p 2 q [] []) := by have h1 := HM.out; rw [HD.out] at h1; exact h1
              clear HM HD
              go_wp2_with fail
              refine (o_next S H5.out hnone 1 (z64_small (by omega)) (x := zpk) rfl (b := false) rfl (L' := []) rfl).mono ?_
              rintro e w6 ⟨rfl, m6, _⟩
              have H6 : Hid (Own1 H (fun _ => False) w (w6.alloc (.cells #[.int .i64 0, .int .i64 0, .int .i64 0, .int .u32 0] 27)) p 2 q [] []) := m6.on S (fresh _ _)
              clear m6 H5
              unfold zpk
              dsimp only
              go_upto_region 21 with fail
              generalize w6.alloc _ = u6 at H6 ⊢
              go_wp2_with fail
              refine (hknown_any S u6).mono ?_
              rintro e w7 ⟨rfl, b7⟩
              have H7 : Hid (Below w.heap.size w w7) := later H6.out.below b7
              clear b7
              go_wp2_with fail
              go_ret
              exact ⟨rfl, H7.out⟩
        · obtain rfl : q = m := by rw [if_neg h] at hmN; exact hmN
          refine (o_waits S H2.out 1 (z64_small (by omega)) HW1.out).mono ?_
          rintro e w3 ⟨rfl, m3, _⟩
          have H3 : Hid (Own1 H (fun _ => False) w w3 p 2 q (Hst.ones ((us.take q).drop 0)) []) := m3
          clear m3 H2
          go_wp2_with fail
          refine (o_waits S H3.out 0 z64_zero HW0.out).mono ?_
          rintro e w4 ⟨rfl, m4, _⟩
          have H4 : Hid (Own1 H (fun _ => False) w w4 p 2 q (Hst.ones ((us.take q).drop 0)) []) := m4
          clear m4 H3
          go_wp2_with fail
          go_loopw [10] (fun v wr => ∃ k : Nat, k ≤ q ∧ v = .int .i64 k ∧ Own1 H (fun _ => False) w wr p 2 q (Hst.ones ((us.take q).drop k)) []) (fun v _ => q - (intOf v).toNat)
          case atStart => exact ⟨0, Nat.zero_le _, rfl, H4.out⟩
          case round =>
            obtain ⟨j, hj, rfl, hmj⟩ := hrel
            have HM : Hid (Own1 H (fun _ => False) w wr p 2 q (Hst.ones ((us.take q).drop j)) []) := hmj
            clear hmj H4
            by_cases hjm : j < q
            · have hjI : (j : Int) < (q : Int) := by omega
              have hjl : j < i := by have := HMm.out.2.1; omega
              have hd := Hst.drop_one (us := us) hjm (by have := HUl.out; have := HMm.out.2.1; omega)
              obtain ⟨y, hy⟩ : ∃ y, us.getD j 0 = y := ⟨_, rfl⟩
              have HY : Hid (us.getD j 0 = y) := hy
              rw [hy] at hd
              obtain ⟨e1, e2, e3⟩ := Hst.ones_cons y ((us.take q).drop (j + 1))
              rw [← hd] at e1 e2 e3
              have HE : Hid (_ ∧ _ ∧ _) := ⟨e1, e2, e3⟩
              clear hd hy e1 e2 e3
              go_wp2_with fail
              refine (o_next S HM.out hnone 1 (z64_small (by omega)) HE.out.1 HE.out.2.1 HE.out.2.2).mono ?_
              rintro e w5 ⟨rfl, m5, _⟩
              have H5 : Hid (Own1 H (fun _ => False) w (w5.alloc (.cells #[.int .i64 0, .int .i64 0, .int .i64 1, .int .u32 y] 27)) p 2 q (Hst.ones ((us.take q).drop (j + 1))) []) := m5.on S (fresh _ _)
              have p5 : (w5.alloc (.cells #[.int .i64 0, .int .i64 0, .int .i64 1, .int .u32 y] 27)).cell? ⟨w5.heap.size, 3, none⟩ = some (.int .u32 y) := by simp
              clear m5 HE
              dsimp only
              go_upto_region 18 with fail
              generalize w5.alloc _ = u5 at H5 p5 ⊢
              obtain ⟨g5, hg5⟩ : ∃ g, w5.heap.size = g := ⟨_, rfl⟩
              rw [hg5] at p5 ⊢
              obtain ⟨ub, uo, eu, cu⟩ := (HU.out.below H5.out.below).at hjl
              subst eu
              rw [HY.out] at cu
              have hne := Since.any u5
              have d1 := fun j : Since u5 => j.cell p5
              have d2 := fun j : Since u5 => j.cell cu
              have g9 : (y != y) = false := by simp
              clear hg5
              go_wp2_with fail
              refine region_since (u := u5) (by kernel_rfl) (by kernel_rfl) (Below.refl _ _) ?_
              repeat (go_big_quiet_step (first | fail))
              refine wpQuiet_nil ?_
              intro _ hw'
              obtain ⟨nq, hw2⟩ := hw'
              subst hw2
              have H6 : Hid (Own1 H (fun _ => False) w nq.w p 2 q (Hst.ones ((us.take q).drop (j + 1))) []) := H5.out.on S nq.h
              clear d1 d2 hne p5 cu H5
              go_wp2_with fail
              go_roundw
              case rel => first | exact ⟨j + 1, by omega, by go_num, H6.out⟩ | ((repeat apply Exists.intro); exact ⟨⟨j + 1, by omega, by go_num, H6.out⟩, rfl⟩)
              case measure => simp [intOf]; omega
            · have hjI : ¬ (j : Int) < (q : Int) := by omega
              have HD : Hid (Hst.ones ((us.take q).drop j) = []) := by
                show _ = _
                rw [List.drop_eq_nil_of_le (by rw [List.length_take]; omega)]
                rfl
              have H5 : Hid (Own1 H (fun _ => False) w wr p 2 q [] []) := by have h1 := HM.out; rw [HD.out] at h1; exact h1
              clear HM HD
              go_wp2_with fail
              refine (o_next S H5.out hnone 1 (z64_small (by omega)) (x := zpk) rfl (b := false) rfl (L' := []) rfl).mono ?_
              rintro e w6 ⟨rfl, m6, _⟩
              have H6 : Hid (Own1 H (fun _ => False) w (w6.alloc (.cells #[.int .i64 0, .int .i64 0, .int .i64 0, .int .u32 0] 27)) p 2 q [] []) := m6.on S (fresh _ _)
              clear m6 H5
              unfold zpk
              dsimp only
              go_upto_region 21 with fail
              generalize w6.alloc _ = u6 at H6 ⊢
              go_wp2_with fail
              refine (hknown_any S u6).mono ?_
              rintro e w7 ⟨rfl, b7⟩
              have H7 : Hid (Below w.heap.size w w7) := later H6.out.below b7
              clear b7
              go_wp2_with fail
              go_ret
              exact ⟨rfl, H7.out⟩

theorem hostOrder_any {H : HostRel} (S : HostSpec H) (w : World) (a0 : Int) (w0 : (Lit.int .u8 a0).wf = true) (b : Option Addr) (len cap : Nat) (us : List Int) (hu : Us w b len us) :
    Calls Try.prog 6 #[.int .u8 a0, .slice b len cap] w fun e w' => e = .returned (.bool true) ∧ Below w.heap.size w w' := by
  have b0 := bounds_u8 w0
  obtain ⟨a, rfl⟩ := Int.eq_ofNat_of_zero_le b0.1
  exact hostOrder_walk S w a (by omega) b len cap us hu
end Go.Proofs.Ytfldhjeeoaplfaa
