/-
  The document's own arbiter (package shunterref10): Run. Conditions: none but that the arbiter is one, and that the slice leads to masks, apart from it.
-/
import Derived.Test.YtlojadodabddpaaDoorIslS
namespace Go.Proofs.YtlojadodabddpaaDoor
open Go.ChangeShapes Go.WideShapes Go.ChangeAt Go.RowKit
set_option linter.unusedVariables false

theorem rrun_no {w : World} {p g a n : Nat} {G A : Nat → Nat} (h : Arb w p g a n G A) (x : Option Addr) (len cap : Nat) (hl : len ≤ 140737488351232) (z : Int) (hz : -9223372036854775808 ≤ z ∧ z ≤ 9223372036854775807) (hb : len ≠ n ∨ z < 1 ∨ 16 < z) :
    Calls Tryd.prog 20 #[.pointer (some ⟨p, 0, none⟩), .slice x len cap, .int .i64 z] w fun e w' => e = .returned (.slice none 0 0) ∧ w' = w := by
  have n2 := h.n2
  have c0 := h.c0
  clear h
  by_cases h0 : len = n
  · subst h0
    by_cases h1 : z < 1
    · go_enter Tryd.func20, Tryd.ntmps20
      go_wp2_with fail
      go_ret
      exact ⟨rfl, rfl⟩
    · have h2 : 16 < z := by omega
      go_enter Tryd.func20, Tryd.ntmps20
      go_wp2_with fail
      go_ret
      exact ⟨rfl, rfl⟩
  · have h3 : ¬ (len : Int) = (n : Int) := by omega
    go_enter Tryd.func20, Tryd.ntmps20
    go_wp2_with fail
    go_ret
    exact ⟨rfl, rfl⟩
set_option maxRecDepth 100000 in
set_option maxHeartbeats 4000000 in
theorem rrun_yes {w : World} {p g a n : Nat} {G A : Nat → Nat} (h : Arb w p g a n G A) (x : Option Addr) (cx : Nat) (rows : List Nat) (hl : ∀ x ∈ rows, x < 65536) (hr : Nums .u16 w x n rows) (hx : ∀ ad, x = some ad → ad.block ≠ g ∧ ad.block ≠ a) (K : Nat) (hK1 : 1 ≤ K) (hK2 : K ≤ 16) (R : Nat → Nat) (hRr : (fun i => rows.getD i 0) = R) :
    Calls Tryd.prog 20 #[.pointer (some ⟨p, 0, none⟩), .slice x n cx, .int .i64 (K : Nat)] w fun e w' => ∃ b cap, e = .returned (.slice (some ⟨b, 0, none⟩) n cap) ∧ w.heap.size ≤ b ∧ Ints w' b n (Isl.run R G A n K) ∧ Arb w' p g a n (Isl.runG R G A n) (Isl.runA R G A n) ∧ Sans (fun j => j = g ∨ j = a) w w' := by
  have n1 := h.n1
  have n2 := h.n2
  have lg := h.lg
  have la := h.la
  have lp := h.lp
  have c0 := h.c0
  have HA : Hid (Arb w p g a n G A) := h
  have HR : Hid (Nums .u16 w x n rows) := hr
  have HL : Hid (∀ x ∈ rows, x < 65536) := hl
  have HX : Hid (∀ ad, x = some ad → ad.block ≠ g ∧ ad.block ≠ a) := hx
  have HRr : Hid ((fun i => rows.getD i 0) = R) := hRr
  obtain ⟨i0, hi0, hz0, hz1, hz2⟩ := info_parts infoI
  clear h hr hl hx hRr
  have d1 : decide ((K : Int) < 1) = false := decide_eq_false (by omega)
  have d2 : decide ((16 : Int) < (K : Int)) = false := decide_eq_false (by omega)
  go_enter Tryd.func20, Tryd.ntmps20
  go_wp2_with fail
  go_loopw [7, 8] (fun v j wr => ∃ i : Nat, i ≤ n ∧ j = .int .i64 i ∧ wr.ownsRow w.heap.size 3 1 v i (icells i (fun _ => -1)) ∧ Below w.heap.size w wr) (fun _ j _ => n - (intOf j).toNat)
  case atStart => exact ⟨0, Nat.zero_le _, rfl, World.ownsRow_nil _ _ _ _, Below.refl _ _⟩
  case round =>
    obtain ⟨i, hi, rfl, hrow, hB⟩ := hrel
    have HK : Hid (wr.ownsRow w.heap.size 3 1 u7 i (icells i (fun _ => -1)) ∧ Below w.heap.size w wr) := ⟨hrow, hB⟩
    have hs := hB.size
    clear hrow hB
    by_cases hin : i < n
    · go_wp2_with (at_builtin; refine wpList_append_own _ rfl _ _ 25 rfl w.heap.size 3 i0 _ 1 8 Tryd.underlying25 hi0 hz0 hz1 hz2 rfl (by decide) u7 i (icells i (fun _ => -1)) rfl (HK.out.1.alloc _) ⟨wr.heap.size, 0, none⟩ 1 1 [.int .i64 (-1)] rfl rfl (one_cell .i64 _ wr (-1)) (one_one _ _) (by unfold maxLen; omega) (by omega) (by simp; omega) ?_; intro v' u2 hown hg hnil)
      go_roundw
      case rel =>
        have R1 : u2.ownsRow w.heap.size 3 1 v' (i + 1) (icells (i + 1) (fun _ => -1)) := by
          rw [← icells_snoc]
          exact hown
        have R2 : Below w.heap.size w u2 := below_grown HK.out.2 HK.out.1 _ hs hg
        first | exact ⟨i + 1, by omega, by go_num, R1, R2⟩ | ((repeat apply Exists.intro); exact ⟨⟨i + 1, by omega, by go_num, R1, R2⟩, rfl⟩)
      case measure => simp [intOf]; omega
    · obtain rfl : i = n := by omega
      obtain ⟨b0, cp0, hv, hb0, hI0, _, _⟩ := ints_of_owns n1 HK.out.1
      rw [hv]
      have HM : Hid (Ints wr b0 i (Isl.run R G A i 0) ∧ Arb wr p g a i (Isl.stG R G A i 0) (Isl.stA R G A i 0) ∧ Sans (fun j => j = g ∨ j = a) w wr) := ⟨hI0, HA.out.below HK.out.2, Sans.of_below HK.out.2⟩
      clear hI0 HK
      go_wp2_with fail
      go_loopw [7, 9] (fun v j wr => ∃ (r b cap : Nat), r ≤ K ∧ v = .slice (some ⟨b, 0, none⟩) i cap ∧ j = .int .i64 r ∧ w.heap.size ≤ b ∧ Ints wr b i (Isl.run R G A i r) ∧ Arb wr p g a i (Isl.stG R G A i r) (Isl.stA R G A i r) ∧ Sans (fun j => j = g ∨ j = a) w wr) (fun _ j _ => K - (intOf j).toNat)
      case atStart => exact ⟨0, b0, cp0, Nat.zero_le _, rfl, rfl, hb0, HM.out⟩
      case round =>
        obtain ⟨r, b, cap, hr, rfl, rfl, hb, hI, hA, hS⟩ := hrel
        have HQ : Hid (Ints wr b i (Isl.run R G A i r) ∧ Arb wr p g a i (Isl.stG R G A i r) (Isl.stA R G A i r) ∧ Sans (fun j => j = g ∨ j = a) w wr) := ⟨hI, hA, hS⟩
        clear hI hA hS HM
        by_cases hrK : r < K
        · have hsz := HQ.out.2.2.size
          have lb := HQ.out.1.lt n1
          have hrd : ∀ first : Bool, (first = true ↔ r = 0) → Calls Tryd.prog 30 #[.pointer (some ⟨p, 0, none⟩), .slice x i cx, .slice (some ⟨b, 0, none⟩) i cap, .bool first] wr fun e w' => ∃ b' cap', e = .returned (.slice (some ⟨b', 0, none⟩) i cap') ∧ wr.heap.size ≤ b' ∧ Ints w' b' i (Isl.run R G A i (r + 1)) ∧ Arb w' p g a i (Isl.stG R G A i (r + 1)) (Isl.stA R G A i (r + 1)) ∧ Sans (fun j => j = g ∨ j = a) wr w' := by
            intro first hf
            rw [Isl.run_next]
            refine round_any HQ.out.2.1 x cx rows HL.out (HR.out.sans HQ.out.2.2 (fun ad e h => by have := HX.out ad e; omega)) (some ⟨b, 0, none⟩) cap (Isl.run R G A i r) HQ.out.1.led (fun ad e => by cases e; dsimp only; omega) (fun j _ => (Isl.Ok.run R G A i r).lo j) first R HRr.out _ _ ?_ ?_
            · by_cases h0 : r = 0
              · rw [if_pos (hf.2 h0)]
                subst h0
                rfl
              · rw [if_neg (fun e => h0 (hf.1 e))]
                unfold Isl.stG
                rw [if_neg h0, if_neg (by omega)]
            · by_cases h0 : r = 0
              · rw [if_pos (hf.2 h0)]
                subst h0
                rfl
              · rw [if_neg (fun e => h0 (hf.1 e))]
                unfold Isl.stA
                rw [if_neg h0, if_neg (by omega)]
          have HRd : Hid (∀ first : Bool, (first = true ↔ r = 0) → Calls Tryd.prog 30 #[.pointer (some ⟨p, 0, none⟩), .slice x i cx, .slice (some ⟨b, 0, none⟩) i cap, .bool first] wr fun e w' => ∃ b' cap', e = .returned (.slice (some ⟨b', 0, none⟩) i cap') ∧ wr.heap.size ≤ b' ∧ Ints w' b' i (Isl.run R G A i (r + 1)) ∧ Arb w' p g a i (Isl.stG R G A i (r + 1)) (Isl.stA R G A i (r + 1)) ∧ Sans (fun j => j = g ∨ j = a) wr w') := hrd
          clear hrd
          have hbq : ((r : Int) == 0) = true ↔ r = 0 := by simp
          go_wp2_with fail
          refine (HRd.out _ hbq).mono ?_
          rintro e u ⟨b', cap', rfl, hb', hI, hA, hS⟩
          have HQ2 : Hid (Ints u b' i (Isl.run R G A i (r + 1)) ∧ Arb u p g a i (Isl.stG R G A i (r + 1)) (Isl.stA R G A i (r + 1)) ∧ Sans (fun j => j = g ∨ j = a) w u) := ⟨hI, hA, HQ.out.2.2.then hS⟩
          clear hI hA hS HQ HRd hbq
          go_wp2_with fail
          go_roundw
          case rel => first | exact ⟨r + 1, b', cap', by omega, rfl, by go_num, by omega, HQ2.out⟩ | ((repeat apply Exists.intro); exact ⟨⟨r + 1, b', cap', by omega, rfl, by go_num, by omega, HQ2.out⟩, rfl⟩)
          case measure => simp [intOf]; omega
        · obtain rfl : r = K := by omega
          go_wp2_with fail
          go_ret
          have h1 := HQ.out.2.1
          rw [show Isl.stG R G A i r = Isl.runG R G A i by unfold Isl.stG; rw [if_neg (by omega)], show Isl.stA R G A i r = Isl.runA R G A i by unfold Isl.stA; rw [if_neg (by omega)]] at h1
          exact ⟨b, cap, rfl, hb, HQ.out.1, h1, HQ.out.2.2⟩
end Go.Proofs.YtlojadodabddpaaDoor
