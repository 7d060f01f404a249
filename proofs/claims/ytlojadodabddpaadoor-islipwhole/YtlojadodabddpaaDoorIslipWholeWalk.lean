/-
  The law IslipWhole of package shunterlaw10: in as many rounds as ports none is left that could be matched. Conditions: that the table of math/bits holds what its initialiser lays.
-/
import Derived.Test.YtlojadodabddpaaDoorIslSeen
namespace Go.Proofs.YtlojadodabddpaaDoor
open Go.ChangeShapes Go.WideShapes Go.ChangeAt Go.RowKit
set_option linter.unusedVariables false

set_option maxRecDepth 100000 in
set_option maxHeartbeats 4000000 in
theorem islipWhole_any (w : World) (hT : Tab w) (k0 : Int) (wk : (Lit.int .u8 k0).wf = true) (x : Option Addr) (len cap : Nat) (rs : List RowM) (hr : Rws w x len rs):
    Calls Tryd.prog 8 #[.int .u8 k0, .slice x len cap] w fun e w' => e = .returned (.bool true) ∧ Below w.heap.size w w' := by
  obtain ⟨k, rfl, hk⟩ := nat_u8 wk
  obtain ⟨n, hN, hN1, hN16⟩ := size_of k
  have HT : Hid (Tab w) := hT
  have HR : Hid (Rws w x len rs) := hr
  have h0 := hT.lt
  have hlen := hr.2.1
  clear hT hr wk
  by_cases h30 : 30 < len
  · have d : decide ((30 : Int) < (len : Int)) = true := decide_eq_true (by omega)
    go_enter Tryd.func8, Tryd.ntmps8
    go_wp2_with fail
    refine (new_good n ⟨hN1, hN16⟩ w).mono ?_
    rintro e w1 ⟨p, g, a, rfl, hA, hB, h1, h2, h3⟩
    go_wp2_with fail
    refine (known_any _ (HT.out.below hB h0)).mono ?_
    rintro e w2 ⟨rfl, hb2⟩
    go_wp2_with fail
    go_ret
    exact ⟨rfl, later hB hb2⟩
  · have d : decide ((30 : Int) < (len : Int)) = false := decide_eq_false (by omega)
    have hmk := run_make_row' (P := Tryd.prog) 25 3 (.int .i64 0) 8 Tryd.underlying25 infoI rfl .i64 .i64 n (by omega) (by omega)
    go_enter Tryd.func8, Tryd.ntmps8
    go_wp2_with fail
    refine (new_good n ⟨hN1, hN16⟩ w).mono ?_
    rintro e w1 ⟨p, g, a, rfl, hA, hB, h1, h2, h3⟩
    have HA : Hid (Arb w1 p g a n (fun _ => 0) (fun _ => 0) ∧ Below w.heap.size w w1) := ⟨hA, hB⟩
    clear hA hB
    go_wp2_with fail
    go_loopw [7, 8, 9, 10, 11, 12, 13] (fun v _ _ _ _ _ _ wr => ∃ (i : Nat) (G A : Nat → Nat), i ≤ len ∧ v = .int .i64 i ∧ Arb wr p g a n G A ∧ Below w.heap.size w wr) (fun v _ _ _ _ _ _ _ => len - (intOf v).toNat)
    case atStart => exact ⟨0, _, _, Nat.zero_le _, rfl, HA.out⟩
    case round =>
      obtain ⟨i, G, A, hi, rfl, hA, hB⟩ := hrel
      have HK : Hid (Arb wr p g a n G A ∧ Below w.heap.size w wr) := ⟨hA, hB⟩
      clear hA hB HA
      by_cases hil : i < len
      · obtain ⟨xb, xo, rfl, hx, hok⟩ := (HR.out.below HK.out.2).at hil
        obtain ⟨row, hrow⟩ : ∃ row, rs.getD i zrow = row := ⟨_, rfl⟩
        rw [hrow] at hx hok
        have HO : Hid (row.ok wr) := hok
        clear hrow hok
        have lA := HK.out.1.lg
        have lB := HK.out.1.la
        have lC := HK.out.1.lp
        have hs0 := HK.out.2.size
        go_wp2_with fail
        refine (square_any row.a row.len row.cap n row.l hN16 _ HO.out.1).mono ?_
        rintro e w2 ⟨rfl, hC, hb2⟩
        have hs2 := hb2.size
        go_wp2_with fail
        refine (run_cols (HK.out.1.below hb2) hC (fun i _ => getD_lt HO.out.2.1 (by omega)) (HT.out.below (later HK.out.2 hb2) h0) n hN1 hN16).mono ?_
        rintro e w3 ⟨b, rfl, hb, hI, hA3, hS⟩
        have hs3 := hS.size
        obtain ⟨R, hR⟩ : ∃ R, reqs n (fun i => row.l.getD i 0) = R := ⟨_, rfl⟩
        rw [hR] at hI hA3
        have hokm := Isl.Ok.run R G A n n
        obtain ⟨m, hm⟩ : ∃ m, Isl.run R G A n n = m := ⟨_, rfl⟩
        rw [hm] at hI hokm
        have HOk : Hid (Isl.Ok R n m) := hokm
        have HWh : Hid (∀ o i, o < n → i < n → Isl.ask R n m o i = false) := by
          have := Isl.whole R G A n hN1
          rwa [hm] at this
        have HRr : Hid (∀ j, j < n → row.l.getD j 0 = R j) := fun j hj => by rw [← hR]; exact (reqs_at (f := fun i => row.l.getD i 0) hj).symm
        have H16 : Hid (∀ j, j < n → R j < 65536) := fun j hj => by rw [← HRr.out j hj]; exact getD_lt HO.out.2.1 (by omega)
        have hCs := hC.sans hS (by omega)
        have lb := hI.lt hN1
        have lx := cell_lt (hCs 0 hN1).1
        have HB3 : Hid (Below w.heap.size w w3) := (later HK.out.2 hb2).trans (hS.below (by omega) (fun k e => by omega))
        have HW3 : Hid (Arb w3 p g a n (Isl.runG R G A n) (Isl.runA R G A n) ∧ Ints w3 b n m ∧ Cols w3 wr.heap.size n (fun i => row.l.getD i 0)) := ⟨hA3, hI, hCs⟩
        clear hI hA3 hS hC hCs hR hm hokm hb2
        have HU : Hid (Arb (w3.alloc (.cells (madeCells #[.int .i64 0] n) 3)) p g a n (Isl.runG R G A n) (Isl.runA R G A n) ∧ Ints (w3.alloc (.cells (madeCells #[.int .i64 0] n) 3)) b n m ∧ Cols (w3.alloc (.cells (madeCells #[.int .i64 0] n) 3)) wr.heap.size n (fun i => row.l.getD i 0) ∧ Ints (w3.alloc (.cells (madeCells #[.int .i64 0] n) 3)) w3.heap.size n (Isl.seenF m 0) ∧ Below w.heap.size w (w3.alloc (.cells (madeCells #[.int .i64 0] n) 3))) := ⟨HW3.out.1.below (fresh _ _), HW3.out.2.1.below (fresh _ _), HW3.out.2.2.below (fresh _ _), (Ints.made w3 n 3).congr (fun o _ => (Isl.seen_zero m o).symm), later HB3.out (fresh _ _)⟩
        obtain ⟨xb2, hxb2⟩ : ∃ xb2, wr.heap.size = xb2 := ⟨_, rfl⟩
        obtain ⟨sb, hsb⟩ : ∃ sb, w3.heap.size = sb := ⟨_, rfl⟩
        go_wp2_with fail
        generalize w3.alloc (.cells (madeCells #[.int .i64 0] n) 3) = U at HU ⊢
        have hd : sb ≠ b ∧ sb ≠ xb2 ∧ sb ≠ p ∧ sb ≠ g ∧ sb ≠ a ∧ w.heap.size ≤ sb := by omega
        rw [hxb2, hsb] at HU
        try rw [hxb2]
        try rw [hsb]
        clear HW3 HB3 hx HK HO hxb2 hsb lA lB lC hs0 hs2 hs3 lb lx hb
        go_loopw [11] (fun v wr => ∃ j : Nat, j ≤ n ∧ v = .int .i64 j ∧ Ints wr sb n (Isl.seenF m j) ∧ Sans (fun b => b = sb) U wr) (fun v _ => n - (intOf v).toNat)
        case atStart => exact ⟨0, Nat.zero_le _, rfl, HU.out.2.2.2.1, Sans.refl _ _⟩
        case round =>
          obtain ⟨j, hj, rfl, hSe, hSs⟩ := hrel
          have HS : Hid (Ints wr sb n (Isl.seenF m j) ∧ Sans (fun b => b = sb) U wr) := ⟨hSe, hSs⟩
          clear hSe hSs
          by_cases hjn : j < n
          · have x1 := ((HU.out.2.1.sans HS.out.2 (by omega)) j hjn).1
            have hlo := HOk.out.lo j
            obtain ⟨X, hX⟩ : ∃ X, m j = X := ⟨_, rfl⟩
            rw [hX] at x1 hlo
            by_cases hX0 : X < 0
            · obtain rfl : X = -1 := by omega
              have HX : Hid (m j = -1) := hX
              clear hX
              go_wp2_with fail
              go_roundw
              case rel => exact ⟨j + 1, by omega, by go_num, HS.out.1.congr (fun o _ => Isl.seen_miss (by rw [HX.out]; omega) o), HS.out.2⟩
              case measure => simp [intOf]; omega
            · obtain ⟨o, rfl⟩ := Int.eq_ofNat_of_zero_le (show 0 ≤ X by omega)
              have hon := (HOk.out.asks j o hX).2.1
              obtain ⟨s1, f1⟩ := HS.out.1 o hon
              have HX : Hid (m j = (o : Nat)) := hX
              clear hX
              have z2 : decide ((o : Int) < (n : Int)) = true := decide_eq_true (by omega)
              go_wp2_with fail
              go_roundw
              case rel =>
                refine ⟨j + 1, by omega, by go_num, (HS.out.1.set (k := o) (v := 1) hon).congr (fun y _ => Isl.seen_hit HX.out y), HS.out.2.then (Sans.of_set (F := fun b => b = sb) wr ⟨sb, o, none⟩ _ rfl)⟩
              case measure => simp [intOf]; omega
          · obtain rfl : j = n := by omega
            have HV : Hid (Arb wr p g a j (Isl.runG R G A j) (Isl.runA R G A j) ∧ Ints wr b j m ∧ Cols wr xb2 j (fun i => row.l.getD i 0) ∧ Ints wr sb j (Isl.seenF m j) ∧ Below w.heap.size w wr) := ⟨HU.out.1.sans HS.out.2 (by omega) (by omega) (by omega), HU.out.2.1.sans HS.out.2 (by omega), HU.out.2.2.1.sans HS.out.2 (by omega), HS.out.1, HU.out.2.2.2.2.trans (HS.out.2.below (by have := HU.out.2.2.2.2.size; omega) (fun k e => by omega))⟩
            clear HS HU
            go_wp2_with fail
            go_loopw [12, 13] (fun v _ ww => ∃ s : Nat, s ≤ j ∧ v = .int .i64 s ∧ ww = wr) (fun v _ _ => j - (intOf v).toNat)
            case atStart => exact ⟨0, Nat.zero_le _, rfl, rfl⟩
            case round =>
              obtain ⟨s, hs, rfl, rfl⟩ := hrel
              by_cases hsn : s < j
              · go_wp2_with fail
                go_loopw [13] (fun v ww => ∃ o : Nat, o ≤ j ∧ v = .int .i64 o ∧ ww = wr) (fun v _ => j - (intOf v).toNat)
                case atStart => exact ⟨0, Nat.zero_le _, rfl, rfl⟩
                case round =>
                  obtain ⟨o, ho, rfl, rfl⟩ := hrel
                  by_cases hon : o < j
                  · have x1 := (HV.out.2.1 s hsn).1
                    have y1 : wr.cell? ⟨xb2, s, none⟩ = some (.int .u16 (row.l.getD s 0 : Nat)) := (HV.out.2.2.1 s hsn).1
                    rw [HRr.out s hsn] at y1
                    have s1 := (HV.out.2.2.2.1 o hon).1
                    have hask := HWh.out o s hon hsn
                    have hR16 := H16.out s hsn
                    have hbt := hasB_nat (m := R s) (i := o) (by omega)
                    obtain ⟨Y, hY⟩ : ∃ Y, R s = Y := ⟨_, rfl⟩
                    obtain ⟨X, hX⟩ : ∃ X, m s = X := ⟨_, rfl⟩
                    rw [hX] at x1
                    rw [hY] at y1 hR16 hbt
                    by_cases hX0 : X < 0
                    · have dX : decide (X < 0) = true := decide_eq_true hX0
                      by_cases ht : Isl.taken j m o = true
                      · have s2 : wr.cell? ⟨sb, o, none⟩ = some (.int .i64 1) := by rw [s1]; unfold Isl.seenF; rw [if_pos ht]
                        clear s1 hask hX ht
                        go_wp2_with fail
                        go_roundw
                        case rel => exact ⟨o + 1, by omega, by go_num, by first | rfl | trivial⟩
                        case measure => simp [intOf]; omega
                      · have s2 : wr.cell? ⟨sb, o, none⟩ = some (.int .i64 0) := by rw [s1]; unfold Isl.seenF; rw [if_neg ht]
                        have hbf : Y.testBit o = false := by
                          unfold Isl.ask at hask
                          rw [hX, hY, dX] at hask
                          have : Isl.taken j m o = false := by simpa using ht
                          rw [this] at hask
                          simpa using hask
                        rw [hbf] at hbt
                        clear s1 hask hX ht hbf
                        go_wp2_with (go_at_call 21; refine (refHas_any Y hR16 _ _).mono ?_; rintro e w' ⟨rfl, hq⟩; obtain rfl := hq.symm)
                        go_roundw
                        case rel => first | exact ⟨o + 1, by omega, by go_num, by first | rfl | trivial⟩ | ((repeat apply Exists.intro); exact ⟨⟨o + 1, by omega, by go_num, by first | rfl | trivial⟩, rfl⟩)
                        case measure => simp [intOf]; omega
                    · have dX : decide (X < 0) = false := decide_eq_false hX0
                      clear s1 hask hX
                      go_wp2_with fail
                      go_roundw
                      case rel => exact ⟨o + 1, by omega, by go_num, by first | rfl | trivial⟩
                      case measure => simp [intOf]; omega
                  · obtain rfl : o = j := by omega
                    go_wp2_with fail
                    all_goals first
                      | exact ⟨⟨s + 1, by omega, by go_num, by first | rfl | trivial⟩, by simp [intOf]; omega⟩
                      | (go_roundw; (case rel => first | exact ⟨s + 1, by omega, by go_num, by first | rfl | trivial⟩ | ((repeat apply Exists.intro); exact ⟨⟨s + 1, by omega, by go_num, by first | rfl | trivial⟩, rfl⟩)); (case measure => simp [intOf]; omega))
              · obtain rfl : s = j := by omega
                go_wp2_with fail
                all_goals first
                  | exact ⟨⟨i + 1, _, _, by omega, by go_num, HV.out.1, HV.out.2.2.2.2⟩, by simp [intOf]; omega⟩
                  | (go_roundw; (case rel => first | exact ⟨i + 1, _, _, by omega, by go_num, HV.out.1, HV.out.2.2.2.2⟩ | ((repeat apply Exists.intro); exact ⟨⟨i + 1, _, _, by omega, by go_num, HV.out.1, HV.out.2.2.2.2⟩, rfl⟩)); (case measure => simp [intOf]; omega))
      · obtain rfl : i = len := by omega
        go_wp2_with fail
        refine (known_any _ (HT.out.below HK.out.2 h0)).mono ?_
        rintro e w2 ⟨rfl, hb2⟩
        go_wp2_with fail
        go_ret
        exact ⟨rfl, later HK.out.2 hb2⟩
end Go.Proofs.YtlojadodabddpaaDoor
