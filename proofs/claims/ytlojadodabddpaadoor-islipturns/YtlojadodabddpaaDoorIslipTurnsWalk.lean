/-
  The law IslipTurns of package shunterlaw10: when all ask for all, each has had each behind so many ticks. Conditions: that the table of math/bits holds what its initialiser lays.
-/
import Derived.Test.YtlojadodabddpaaDoorIslTurn
namespace Go.Proofs.YtlojadodabddpaaDoor
open Go.ChangeShapes Go.WideShapes Go.ChangeAt Go.RowKit
set_option linter.unusedVariables false

theorem size_six (b : Nat) : ∃ N : Nat, (1 : Int) + (b : Int) % 6 = (N : Nat) ∧ 1 ≤ N ∧ N ≤ 6 := ⟨1 + b % 6, by omega, by omega, by omega⟩
/-- rows below i are all ones, of row i the first j bits -/
def ones2 (n i j : Nat) : Nat → Nat := fun x => if x < i then 2 ^ n - 1 else if x = i then 2 ^ j - 1 else 0
theorem ones2_at (n i j : Nat) : ones2 n i j i = 2 ^ j - 1 := by simp [ones2]
theorem ones2_zero (n x : Nat) : ones2 n 0 0 x = 0 := by simp [ones2]
theorem ones2_next (n i x : Nat) : ones2 n i n x = ones2 n (i + 1) 0 x := by
  unfold ones2
  by_cases h : x < i
  · rw [if_pos h, if_pos (by omega)]
  · by_cases e : x = i
    · rw [if_neg h, if_pos e, if_pos (by omega)]
    · rw [if_neg h, if_neg e, if_neg (by omega)]; simp
theorem ones2_hit (n i j x : Nat) : (if x = i then 2 ^ j - 1 + 2 ^ j else ones2 n i j x) = ones2 n i (j + 1) x := by
  unfold ones2
  by_cases e : x = i
  · subst e
    rw [if_pos rfl, if_neg (by omega), if_pos rfl, Nat.pow_succ]
    have := Nat.two_pow_pos j
    omega
  · rw [if_neg e]
    by_cases h : x < i
    · rw [if_pos h, if_pos h]
    · rw [if_neg h, if_neg h, if_neg e, if_neg e]
theorem ones2_done {n x : Nat} (h : x < n) : ones2 n n 0 x = 2 ^ n - 1 := by unfold ones2; rw [if_pos h]
set_option maxRecDepth 100000 in
set_option maxHeartbeats 4000000 in
theorem islipTurns_any (w : World) (hT : Tab w) (k0 : Int) (wk : (Lit.int .u8 k0).wf = true) :
    Calls Tryd.prog 9 #[.int .u8 k0] w fun e w' => e = .returned (.bool true) ∧ Below w.heap.size w w' := by
  obtain ⟨k, rfl, hk⟩ := nat_u8 wk
  obtain ⟨n, hN, hN1, hN6⟩ := size_six k
  have HT : Hid (Tab w) := hT
  have h0 := hT.lt
  have hmk := run_make_row' (P := Tryd.prog) 28 29 (.int .u16 0) 2 Tryd.underlying28 infoM rfl .i64 .i64 n (by omega) (by omega)
  obtain ⟨N2, hN2⟩ : ∃ N2 : Nat, n * n = N2 := ⟨_, rfl⟩
  have hN2b : N2 ≤ 36 := by rw [← hN2]; exact Nat.mul_le_mul hN6 hN6
  have q1 : (n : Int) * (n : Int) = (N2 : Nat) := by rw [← hN2]; simp
  obtain ⟨T2, hT2⟩ : ∃ T2 : Nat, 2 * n * n = T2 := ⟨_, rfl⟩
  have hT2b : T2 ≤ 72 := by rw [← hT2, Nat.mul_assoc, hN2]; omega
  have q2 : (2 : Int) * (n : Int) * (n : Int) = (T2 : Nat) := by rw [← hT2]; simp
  have HN2 : Hid (n * n = N2) := hN2
  have hmk2 := run_make_row' (P := Tryd.prog) 25 3 (.int .i64 0) 8 Tryd.underlying25 infoI rfl .i64 .i64 N2 (by omega) (by omega)
  clear hT wk hN2 hT2
  go_enter Tryd.func9, Tryd.ntmps9
  go_wp2_with fail
  refine (new_good n ⟨hN1, by omega⟩ w).mono ?_
  rintro e w1 ⟨p, g, a, rfl, hA, hB, h1, h2, h3⟩
  have lA := hA.lg
  have lB := hA.la
  have lC := hA.lp
  have hs1 := hB.size
  have HA : Hid (Arb w1 p g a n (fun _ => 0) (fun _ => 0) ∧ Below w.heap.size w w1) := ⟨hA, hB⟩
  have HC0 : Hid (Cols (w1.alloc (.cells (madeCells #[.int .u16 0] n) 29)) w1.heap.size n (ones2 n 0 0) ∧ Below w1.heap.size w1 (w1.alloc (.cells (madeCells #[.int .u16 0] n) 29))) := ⟨(Cols.made w1 n).congr (fun x _ => (ones2_zero n x).symm), fresh _ _⟩
  clear hA hB
  go_wp2_with fail
  generalize w1.alloc (.cells (madeCells #[.int .u16 0] n) 29) = u0 at HC0 ⊢
  obtain ⟨ab, hab⟩ : ∃ ab, w1.heap.size = ab := ⟨_, rfl⟩
  rw [hab] at lA lB lC hs1 HC0 ⊢
  have HBelow : Hid (∀ u, Below ab w1 u → Below w.heap.size w u) := fun u hu => HA.out.2.trans (hu.mono (by omega))
  have HArb : Hid (∀ u, Below ab w1 u → Arb u p g a n (fun _ => 0) (fun _ => 0)) := fun u hu => HA.out.1.below (by rw [hab]; exact hu)
  clear HA hab
  go_loopw [6, 7] (fun v _ wr => ∃ i : Nat, i ≤ n ∧ v = .int .i64 i ∧ Cols wr ab n (ones2 n i 0) ∧ Below ab w1 wr) (fun v _ _ => n - (intOf v).toNat)
  case atStart => exact ⟨0, Nat.zero_le _, rfl, HC0.out⟩
  case round =>
    obtain ⟨i, hi, rfl, hC, hB⟩ := hrel
    have HC : Hid (Cols wr ab n (ones2 n i 0) ∧ Below ab w1 wr) := ⟨hC, hB⟩
    clear hC hB HC0
    by_cases hin : i < n
    · go_wp2_with fail
      go_loopw [7] (fun v wr => ∃ j : Nat, j ≤ n ∧ v = .int .i64 j ∧ Cols wr ab n (ones2 n i j) ∧ Below ab w1 wr) (fun v _ => n - (intOf v).toNat)
      case atStart => exact ⟨0, Nat.zero_le _, rfl, HC.out⟩
      case round =>
        obtain ⟨j, hj, rfl, hC, hB⟩ := hrel
        have HC2 : Hid (Cols wr ab n (ones2 n i j) ∧ Below ab w1 wr) := ⟨hC, hB⟩
        clear hC hB HC
        by_cases hjn : j < n
        · have hcc := HC2.out.1 i hin
          rw [ones2_at] at hcc
          obtain ⟨c1, f1⟩ := hcc
          have hp : (2 : Nat) ^ j ≤ 64 := Nat.pow_le_pow_right (j := 6) (by omega) (by omega)
          have hp0 := Nat.two_pow_pos j
          obtain ⟨pw, hpw⟩ : ∃ pw, 2 ^ j = pw := ⟨_, rfl⟩
          rw [hpw] at hp hp0 c1
          have HP : Hid (2 ^ j = pw) := hpw
          clear hpw
          obtain ⟨y, hy⟩ : ∃ y, pw - 1 = y := ⟨_, rfl⟩
          rw [hy] at c1
          have hyb : y < 64 := by omega
          have HY : Hid (pw - 1 = y) := hy
          clear hy
          go_wp2_with fail
          go_region_with (go_at_call 15; refine (refBit_any j (by omega) _).mono ?_; rintro e w' ⟨rfl, hq⟩; obtain rfl := hq.symm)
          all_goals
            have hs : Cols (wr.setCell ⟨ab, i, none⟩ (.int .u16 ((y + pw : Nat) : Int))) ab n (ones2 n i (j + 1)) := by
              refine (HC2.out.1.set (k := i) (v := y + pw) hin).congr (fun z _ => ?_)
              rw [← HY.out, ← HP.out]
              exact ones2_hit n i j z
            have hb3 := HC2.out.2.setCell (p := ⟨ab, i, none⟩) (Nat.le_refl _) (.int .u16 ((y + pw : Nat) : Int))
            have hsum : IntKind.u16.wrap ((y : Int) + 2 ^ j) = ((y + pw : Nat) : Int) := by
              have e := HP.out
              have e2 : ((2 : Int) ^ j) = ((pw : Nat) : Int) := by rw [← e]; simp
              rw [e2, IntKind.wrap_u16]
              omega
            have HS : Hid (Cols (wr.setCell ⟨ab, i, none⟩ (.int .u16 ((y + pw : Nat) : Int))) ab n (ones2 n i (j + 1)) ∧ Below ab w1 (wr.setCell ⟨ab, i, none⟩ (.int .u16 ((y + pw : Nat) : Int)))) := ⟨hs, hb3⟩
            have HV : Hid (IntKind.u16.wrap ((y : Int) + 2 ^ j) = ((y + pw : Nat) : Int)) := hsum
            clear hs hb3 hsum
            go_wp2_with fail
            go_roundw
            case rel =>
              rw [HV.out]
              exact ⟨j + 1, by omega, by go_num, HS.out.1.drew1, HS.out.2.drew⟩
            case measure => simp [intOf]; omega
        · obtain rfl : j = n := by omega
          go_wp2_with fail
          all_goals exact ⟨⟨i + 1, by omega, by go_num, HC2.out.1.congr (fun x _ => ones2_next _ i x), HC2.out.2⟩, by simp [intOf]; omega⟩
    · obtain rfl : i = n := by omega
      have HU0 : Hid (Arb (wr.alloc (.cells (madeCells #[.int .i64 0] N2) 3)) p g a i (Isl.tst i 0).1 (Isl.tst i 0).2 ∧ Cols (wr.alloc (.cells (madeCells #[.int .i64 0] N2) 3)) ab i (fun _ => 2 ^ i - 1) ∧ Ints (wr.alloc (.cells (madeCells #[.int .i64 0] N2) 3)) wr.heap.size N2 (fun c => (Isl.cnt i 0 c : Nat)) ∧ Below w.heap.size w (wr.alloc (.cells (madeCells #[.int .i64 0] N2) 3))) :=
        ⟨(HArb.out _ HC.out.2).below (fresh _ _), (HC.out.1.congr (fun x hx => ones2_done hx)).below (fresh _ _), (Ints.made wr N2 3).congr (fun c _ => rfl), later (HBelow.out _ HC.out.2) (fresh _ _)⟩
      have lab := cell_lt (HC.out.1 0 hN1).1
      have hsz := HC.out.2.size
      go_wp2_with fail
      generalize wr.alloc (.cells (madeCells #[.int .i64 0] N2) 3) = U at HU0 ⊢
      obtain ⟨sb, hsb⟩ : ∃ sb, wr.heap.size = sb := ⟨_, rfl⟩
      rw [hsb] at HU0 lab ⊢
      have hd : sb ≠ p ∧ sb ≠ g ∧ sb ≠ a ∧ sb ≠ ab ∧ w.heap.size ≤ sb ∧ ab ≠ g ∧ ab ≠ a ∧ ab ≠ p ∧ w.heap.size ≤ ab := by omega
      clear hsb HC HArb HBelow
      have p16 : (2 : Nat) ^ i - 1 < 65536 := by
        have : (2 : Nat) ^ i ≤ 64 := Nat.pow_le_pow_right (j := 6) (by omega) (by omega)
        omega
      have HP16 : Hid ((2 : Nat) ^ i - 1 < 65536) := p16
      clear p16
      go_loopw [9, 10, 11] (fun v _ _ wr => ∃ t : Nat, t ≤ T2 + 2 * i ∧ v = .int .i64 t ∧ Arb wr p g a i (Isl.tst i t).1 (Isl.tst i t).2 ∧ Cols wr ab i (fun _ => 2 ^ i - 1) ∧ Ints wr sb N2 (fun c => (Isl.cnt i t c : Nat)) ∧ Below w.heap.size w wr) (fun v _ _ _ => T2 + 2 * i - (intOf v).toNat)
      case atStart => exact ⟨0, Nat.zero_le _, rfl, HU0.out⟩
      case round =>
        obtain ⟨t, ht, rfl, hA, hC, hI, hB⟩ := hrel
        have HK : Hid (Arb wr p g a i (Isl.tst i t).1 (Isl.tst i t).2 ∧ Cols wr ab i (fun _ => 2 ^ i - 1) ∧ Ints wr sb N2 (fun c => (Isl.cnt i t c : Nat)) ∧ Below w.heap.size w wr) := ⟨hA, hC, hI, hB⟩
        clear hA hC hI hB HU0
        by_cases htT : t < T2 + 2 * i
        · have z1 : (t : Int) < (T2 : Int) + 2 * (i : Int) := by omega
          have lsb : sb < wr.heap.size := by
            have hpos : 0 < N2 := by rw [← HN2.out]; exact Nat.mul_pos (by omega) (by omega)
            exact cell_lt (HK.out.2.2.1 0 hpos).1
          have lab2 := cell_lt (HK.out.2.1 0 hN1).1
          go_wp2_with fail
          refine (run_cols HK.out.1 HK.out.2.1 (fun _ _ => HP16.out) (HT.out.below HK.out.2.2.2 h0) 1 (by omega) (by omega)).mono ?_
          rintro e w3 ⟨b, rfl, hb, hI, hA, hS⟩
          have hs3 := hS.size
          have HV : Hid (Arb w3 p g a i (Isl.tst i (t + 1)).1 (Isl.tst i (t + 1)).2 ∧ Cols w3 ab i (fun _ => 2 ^ i - 1) ∧ Ints w3 sb N2 (fun c => (Isl.cI i t 0 c : Nat)) ∧ Below w.heap.size w w3 ∧ Ints w3 b i (Isl.mt i t)) :=
            ⟨hA, HK.out.2.1.sans hS (by omega), (HK.out.2.2.1.sans hS (by omega)).congr (fun c _ => by rw [Isl.cI_zero]), HK.out.2.2.2.trans (hS.below HK.out.2.2.2.size (fun k e => by omega)), hI⟩
          have hbn : b ≠ sb := by omega
          clear hA hI hS HK
          go_wp2_with fail
          go_loopw [11] (fun v wr => ∃ s : Nat, s ≤ i ∧ v = .int .i64 s ∧ Ints wr sb N2 (fun c => (Isl.cI i t s c : Nat)) ∧ Sans (fun j => j = sb) w3 wr) (fun v _ => i - (intOf v).toNat)
          case atStart => exact ⟨0, Nat.zero_le _, rfl, HV.out.2.2.1, Sans.refl _ _⟩
          case round =>
            obtain ⟨s, hs, rfl, hI, hS⟩ := hrel
            have HS : Hid (Ints wr sb N2 (fun c => (Isl.cI i t s c : Nat)) ∧ Sans (fun j => j = sb) w3 wr) := ⟨hI, hS⟩
            clear hI hS
            by_cases hsi : s < i
            · have x1 := ((HV.out.2.2.2.2.sans HS.out.2 (by omega)) s hsi).1
              have hok := Isl.Ok.run (Isl.allR i) (Isl.tst i t).1 (Isl.tst i t).2 i 1
              have hlo : -1 ≤ Isl.mt i t s := hok.lo s
              have hup : Isl.mt i t s < (i : Nat) ∨ Isl.mt i t s = -1 := hok.hi s
              obtain ⟨X, hX⟩ : ∃ X, Isl.mt i t s = X := ⟨_, rfl⟩
              rw [hX] at x1 hlo hup
              have HX : Hid (Isl.mt i t s = X) := hX
              clear hX hok
              by_cases hX0 : X < 0
              · have dX : decide (0 ≤ X) = false := decide_eq_false (by omega)
                go_wp2_with fail
                go_roundw
                case rel => exact ⟨s + 1, by omega, by go_num, HS.out.1.congr (fun c _ => by rw [Isl.cI_miss (by rw [HX.out]; exact hX0) c]), HS.out.2⟩
                case measure => simp [intOf]; omega
              · obtain ⟨o, rfl⟩ := Int.eq_ofNat_of_zero_le (show 0 ≤ X by omega)
                have hoi : o < i := by omega
                obtain ⟨q, hq⟩ : ∃ q : Nat, s * i = q := ⟨_, rfl⟩
                have hqb : q + o < N2 := by
                  rw [← hq, ← HN2.out]
                  have : (s + 1) * i ≤ i * i := Nat.mul_le_mul_right i hsi
                  rw [Nat.add_mul] at this
                  omega
                have q3 : (s : Int) * (i : Int) = (q : Nat) := by rw [← hq]; simp
                obtain ⟨c1, f1⟩ := HS.out.1 (q + o) hqb
                dsimp only at c1
                have hcb : Isl.cI i t s (q + o) ≤ 200 := by
                  rw [← hq, Isl.cI_at hoi]
                  have := Isl.cnt_le i t (s * i + o)
                  omega
                have hset : Ints (wr.setCell ⟨sb, q + o, none⟩ (.int .i64 ((Isl.cI i t s (q + o) + 1 : Nat) : Int))) sb N2 (fun c => (Isl.cI i t (s + 1) c : Nat)) := (HS.out.1.set (v := ((Isl.cI i t s (q + o) + 1 : Nat) : Int)) hqb).congr (fun c _ => by
                  rw [← Isl.cI_hit hoi HX.out c, hq]
                  split <;> rfl)
                obtain ⟨y, hy⟩ : ∃ y, Isl.cI i t s (q + o) = y := ⟨_, rfl⟩
                rw [hy] at c1 hcb hset
                have HSet : Hid (Ints (wr.setCell ⟨sb, q + o, none⟩ (.int .i64 ((y + 1 : Nat) : Int))) sb N2 (fun c => (Isl.cI i t (s + 1) c : Nat)) ∧ Sans (fun j => j = sb) w3 (wr.setCell ⟨sb, q + o, none⟩ (.int .i64 ((y + 1 : Nat) : Int)))) := ⟨hset, HS.out.2.then (Sans.of_set _ _ _ rfl)⟩
                have dX : decide ((o : Int) < (i : Int)) = true := decide_eq_true (by omega)
                have z3 : (q : Int) + (o : Int) < (N2 : Int) := by omega
                have z4 : ((q : Int) + (o : Int)).toNat = q + o := by omega
                clear hset hy hq hup hlo
                go_wp2_with fail
                go_roundw
                case rel => exact ⟨s + 1, by omega, by go_num, HSet.out⟩
                case measure => simp [intOf]; omega
            · obtain rfl : s = i := by omega
              have HF : Hid (Arb wr p g a s (Isl.tst s (t + 1)).1 (Isl.tst s (t + 1)).2 ∧ Cols wr ab s (fun _ => 2 ^ s - 1) ∧ Ints wr sb N2 (fun c => (Isl.cnt s (t + 1) c : Nat)) ∧ Below w.heap.size w wr) :=
                ⟨HV.out.1.sans HS.out.2 (by omega) (by omega) (by omega), HV.out.2.1.sans HS.out.2 (by omega), HS.out.1.congr (fun c hc => by rw [Isl.cI_full (by rw [HN2.out]; exact hc)]), HV.out.2.2.2.1.trans (HS.out.2.below HV.out.2.2.2.1.size (fun k e => by omega))⟩
              clear HS HV
              go_wp2_with fail
              all_goals first
                | exact ⟨⟨t + 1, by omega, by go_num, HF.out⟩, by simp [intOf]; omega⟩
                | (go_roundw; (case rel => first | exact ⟨t + 1, by omega, by go_num, HF.out⟩ | ((repeat apply Exists.intro); exact ⟨⟨t + 1, by omega, by go_num, HF.out⟩, rfl⟩)); (case measure => simp [intOf]; omega))
        · obtain rfl : t = T2 + 2 * i := by omega
          have z1 : ¬ (((T2 + 2 * i : Nat) : Int) < (T2 : Int) + 2 * (i : Int)) := by omega
          go_wp2_with fail
          go_loopw [12] (fun v ww => ∃ c : Nat, c ≤ N2 ∧ v = .int .i64 c ∧ ww = wr) (fun v _ => N2 - (intOf v).toNat)
          case atStart => exact ⟨0, Nat.zero_le _, rfl, rfl⟩
          case round =>
            obtain ⟨c, hc, rfl, rfl⟩ := hrel
            by_cases hcN : c < N2
            · have x1 := (HK.out.2.2.1 c hcN).1
              dsimp only at x1
              have hpos := Isl.cnt_pos (n := i) (T := T2 + 2 * i) (c := c) (by omega) (by omega) (by rw [HN2.out]; exact hcN)
              obtain ⟨y, hy⟩ : ∃ y, Isl.cnt i (T2 + 2 * i) c = y := ⟨_, rfl⟩
              rw [hy] at x1 hpos
              have hy0 : ((y : Int) == 0) = false := by simp; omega
              clear hy
              go_wp2_with fail
              go_roundw
              case rel => exact ⟨c + 1, by omega, by go_num, by first | rfl | trivial⟩
              case measure => simp [intOf]; omega
            · obtain rfl : c = N2 := by omega
              go_wp2_with fail
              refine (known_any _ (HT.out.below HK.out.2.2.2 h0)).mono ?_
              rintro e w2 ⟨rfl, hb2⟩
              go_wp2_with fail
              go_ret
              exact ⟨rfl, later HK.out.2.2.2 hb2⟩
end Go.Proofs.YtlojadodabddpaaDoor
