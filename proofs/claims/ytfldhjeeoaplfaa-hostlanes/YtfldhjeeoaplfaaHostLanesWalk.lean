/-
  The law HostLanes of package shunterlaw15, over three bytes that are handed in. Conditions: that package host comes to what HostSpec says.
-/
import Derived.Test.YtfldhjeeoaplfaaHostKnown
namespace Go.Proofs.Ytfldhjeeoaplfaa
open Go.ChangeShapes Go.WideShapes Go.ChangeAt Go.RowKit
set_option linter.unusedVariables false

namespace Hst
/-- i packets of a lane -/
def same (i : Nat) (x : Int) : List Pk := List.replicate i ⟨0, 0, x, 0⟩
theorem same_lane (i : Nat) (x : Int) : lane (same i x) x = same i x := by
  unfold lane same
  rw [List.filter_eq_self]
  intro y hy
  rw [List.eq_of_mem_replicate hy]
  simp [isL]
theorem same_not (i : Nat) {x y : Int} (h : x ≠ y) : lane (same i x) y = [] := by
  unfold lane same
  rw [List.filter_eq_nil_iff]
  intro z hz
  rw [List.eq_of_mem_replicate hz]
  simp [isL, h]
theorem same_len (i : Nat) (x : Int) : (same i x).length = i := List.length_replicate
theorem same_succ (i : Nat) (x : Int) : same i x ++ [⟨0, 0, x, 0⟩] = same (i + 1) x := by
  unfold same
  rw [List.replicate_succ']
theorem same_put {n q i : Nat} {x : Int} (hx : 0 ≤ x ∧ x < (n : Int)) (hi : i < q) : putE n q (same i x) ⟨0, 0, x, 0⟩ = 0 ∧ putL n q (same i x) ⟨0, 0, x, 0⟩ = same (i + 1) x := by
  have h := putE_ok (n := n) (q := q) (L := same i x) (x := ⟨0, 0, x, 0⟩) (by show ¬ (x < 0 ∨ (n : Int) ≤ x); omega) (by show ¬ q ≤ (lane (same i x) x).length; rw [same_lane, same_len]; omega)
  exact ⟨h, (putL_yes h).trans (same_succ i x)⟩
theorem same_full {n q : Nat} {x : Int} (hx : 0 ≤ x ∧ x < (n : Int)) : putE n q (same q x) ⟨0, 0, x, 0⟩ = 150 ∧ putL n q (same q x) ⟨0, 0, x, 0⟩ = same q x := by
  have h := putE_full (n := n) (q := q) (L := same q x) (x := ⟨0, 0, x, 0⟩) (by show ¬ (x < 0 ∨ (n : Int) ≤ x); omega) (by show q ≤ (lane (same q x) x).length; rw [same_lane, same_len]; omega)
  exact ⟨h, putL_no (by rw [h]; decide)⟩
theorem same_other {n q : Nat} {x y : Int} (hy : 0 ≤ y ∧ y < (n : Int)) (hxy : x ≠ y) (hq : 1 ≤ q) : putE n q (same q x) ⟨0, 0, y, 0⟩ = 0 ∧ putL n q (same q x) ⟨0, 0, y, 0⟩ = same q x ++ [⟨0, 0, y, 0⟩] := by
  have h := putE_ok (n := n) (q := q) (L := same q x) (x := ⟨0, 0, y, 0⟩) (by show ¬ (y < 0 ∨ (n : Int) ≤ y); omega) (by show ¬ q ≤ (lane (same q x) y).length; rw [same_not q hxy]; simp; omega)
  exact ⟨h, putL_yes h⟩
end Hst
set_option maxRecDepth 100000 in
set_option maxHeartbeats 4000000 in
theorem hostLanes_walk {H : HostRel} (S : HostSpec H) (w : World) (a b c : Nat) (ha : a < 256) (hb : b < 256) (hc : c < 256) :
    Calls Try.prog 4 #[.int .u8 a, .int .u8 b, .int .u8 c] w fun e w' => e = .returned (.bool true) ∧ Below w.heap.size w w' := by
  obtain ⟨k, hk⟩ : ∃ k : Nat, (a : Int) % 8 = k := ⟨a % 8, by omega⟩
  obtain ⟨x, hx⟩ : ∃ x : Nat, (b : Int) % 3 = x := ⟨b % 3, by omega⟩
  obtain ⟨z, hz⟩ : ∃ z : Nat, (c : Int) % 2 = z := ⟨c % 2, by omega⟩
  obtain ⟨q, hq⟩ : ∃ q : Nat, (1 : Int) + k = q := ⟨1 + k, by omega⟩
  obtain ⟨y, hy⟩ : ∃ y : Nat, ((x : Int) + 1 + z).tmod 3 = y := ⟨(x + 1 + z) % 3, by rw [Int.tmod_eq_emod_of_nonneg (by omega)]; omega⟩
  have hy2 : (y : Int) = ((x : Int) + 1 + z) % 3 := by rw [← hy, Int.tmod_eq_emod_of_nonneg (by omega)]
  have HQ : Hid (1 ≤ q ∧ q ≤ 8) := by show _ ∧ _; omega
  have HX : Hid ((0 ≤ (x : Int) ∧ (x : Int) < (3 : Nat)) ∧ (0 ≤ (y : Int) ∧ (y : Int) < (3 : Nat)) ∧ (x : Int) ≠ (y : Int)) := by show _ ∧ _ ∧ _; omega
  have hk8 : k < 8 := by omega
  have hx3 : x < 3 := by omega
  have hz2 : z < 2 := by omega
  clear hy2
  go_enter Try.func4, Try.ntmps4
  go_wp2_with fail
  refine (o_new S (w0 := w) (Z := fun _ => False) 3 q (by omega) HQ.out (Below.refl _ _) hnone).mono ?_
  rintro e w1 ⟨p, rfl, m1, _⟩
  have H1 : Hid (Own1 H (fun _ => False) w w1 p 3 q (Hst.same 0 (x : Int)) []) := m1
  clear m1
  go_wp2_with fail
  clear hk hx hz hq hy
  go_loopw [11] (fun i wr => ∃ k : Nat, k ≤ q ∧ i = .int .i64 k ∧ Own1 H (fun _ => False) w wr p 3 q (Hst.same k (x : Int)) []) (fun i _ => q - (intOf i).toNat)
  case atStart => exact ⟨0, Nat.zero_le _, rfl, H1.out⟩
  case round =>
    obtain ⟨i, hi, rfl, hm⟩ := hrel
    have HM : Hid (Own1 H (fun _ => False) w wr p 3 q (Hst.same i (x : Int)) []) := hm
    have hq8 : q ≤ 8 := HQ.out.2
    clear hm H1
    by_cases hiq : i < q
    · have hiI : (i : Int) < (q : Int) := by omega
      obtain ⟨e1, e2⟩ := Hst.same_put (n := 3) (q := q) (i := i) HX.out.1 hiq
      have HE : Hid (Hst.putE 3 q (Hst.same i (x : Int)) ⟨0, 0, (x : Int), 0⟩ = 0 ∧ Hst.putL 3 q (Hst.same i (x : Int)) ⟨0, 0, (x : Int), 0⟩ = Hst.same (i + 1) (x : Int)) := ⟨e1, e2⟩
      clear e1 e2
      go_wp2_with fail
      refine (o_put S HM.out hnone ⟨0, 0, (x : Int), 0⟩ (z64_small (by show -1000 ≤ (x : Int) ∧ (x : Int) ≤ 1000; omega)) HE.out.1 HE.out.2).mono ?_
      rintro e w2 ⟨rfl, m2, _⟩
      have H2 : Hid (Own1 H (fun _ => False) w w2 p 3 q (Hst.same (i + 1) (x : Int)) []) := m2
      clear m2
      go_wp2_with fail
      go_roundw
      case rel => first | exact ⟨i + 1, by omega, by go_num, H2.out⟩ | ((repeat apply Exists.intro); exact ⟨⟨i + 1, by omega, by go_num, H2.out⟩, rfl⟩)
      case measure => simp [intOf]; omega
    · obtain rfl : i = q := by omega
      obtain ⟨e1, e2⟩ := Hst.same_full (n := 3) (q := i) HX.out.1
      have HE : Hid (Hst.putE 3 i (Hst.same i (x : Int)) ⟨0, 0, (x : Int), 0⟩ = 150 ∧ Hst.putL 3 i (Hst.same i (x : Int)) ⟨0, 0, (x : Int), 0⟩ = Hst.same i (x : Int)) := ⟨e1, e2⟩
      obtain ⟨e3, e4⟩ := Hst.same_other (n := 3) (q := i) HX.out.2.1 HX.out.2.2 HQ.out.1
      have HF : Hid (Hst.putE 3 i (Hst.same i (x : Int)) ⟨0, 0, (y : Int), 0⟩ = 0 ∧ Hst.putL 3 i (Hst.same i (x : Int)) ⟨0, 0, (y : Int), 0⟩ = Hst.same i (x : Int) ++ [⟨0, 0, (y : Int), 0⟩]) := ⟨e3, e4⟩
      have HWx : Hid ((Hst.lane (Hst.same i (x : Int) ++ [⟨0, 0, (y : Int), 0⟩]) (x : Int)).length = i) := by
        show _ = _
        rw [Hst.lane_snoc_not _ (fun e => HX.out.2.2 e.symm), Hst.same_lane, Hst.same_len]
      have HWy : Hid ((Hst.lane (Hst.same i (x : Int) ++ [⟨0, 0, (y : Int), 0⟩]) (y : Int)).length = 1) := by
        show _ = _
        have := Hst.lane_snoc_at (Hst.same i (x : Int)) ⟨0, 0, (y : Int), 0⟩
        simp only at this
        rw [this, Hst.same_not i HX.out.2.2]
        rfl
      have zx : Hid (Hst.Z64 (x : Int)) := z64_small (by omega)
      have zy : Hid (Hst.Z64 (y : Int)) := z64_small (by have := HX.out.2.1; omega)
      clear e1 e2 e3 e4
      go_wp2_with fail
      refine (hknown_any S wr).mono ?_
      rintro e w3 ⟨rfl, b3⟩
      have H3 : Hid (Own1 H (fun _ => False) w w3 p 3 i (Hst.same i (x : Int)) []) := HM.out.on S b3
      clear b3 HM
      go_wp2_with fail
      refine (o_put S H3.out hnone ⟨0, 0, (x : Int), 0⟩ zx.out HE.out.1 HE.out.2).mono ?_
      rintro e w4 ⟨rfl, m4, _⟩
      have H4 : Hid (Own1 H (fun _ => False) w w4 p 3 i (Hst.same i (x : Int)) []) := m4
      clear m4 H3
      go_wp2_with fail
      refine (o_put S H4.out hnone ⟨0, 0, (y : Int), 0⟩ zy.out HF.out.1 HF.out.2).mono ?_
      rintro e w5 ⟨rfl, m5, _⟩
      have H5 : Hid (Own1 H (fun _ => False) w w5 p 3 i (Hst.same i (x : Int) ++ [⟨0, 0, (y : Int), 0⟩]) []) := m5
      clear m5 H4
      go_wp2_with fail
      refine (o_waits S H5.out (x : Int) zx.out HWx.out).mono ?_
      rintro e w6 ⟨rfl, m6, _⟩
      have H6 : Hid (Own1 H (fun _ => False) w w6 p 3 i (Hst.same i (x : Int) ++ [⟨0, 0, (y : Int), 0⟩]) []) := m6
      clear m6 H5
      go_wp2_with fail
      refine (o_waits S H6.out (y : Int) zy.out HWy.out).mono ?_
      rintro e w7 ⟨rfl, m7, _⟩
      have H7 : Hid (Below w.heap.size w w7) := m7.below
      clear m7 H6
      go_wp2_with fail
      go_ret
      exact ⟨rfl, H7.out⟩
theorem hostLanes_any {H : HostRel} (S : HostSpec H) (w : World) (a0 : Int) (w0 : (Lit.int .u8 a0).wf = true) (a1 : Int) (w1 : (Lit.int .u8 a1).wf = true) (a2 : Int) (w2 : (Lit.int .u8 a2).wf = true) :
    Calls Try.prog 4 #[.int .u8 a0, .int .u8 a1, .int .u8 a2] w fun e w' => e = .returned (.bool true) ∧ Below w.heap.size w w' := by
  have b0 := bounds_u8 w0
  have b1 := bounds_u8 w1
  have b2 := bounds_u8 w2
  obtain ⟨a, rfl⟩ := Int.eq_ofNat_of_zero_le b0.1
  obtain ⟨b, rfl⟩ := Int.eq_ofNat_of_zero_le b1.1
  obtain ⟨c, rfl⟩ := Int.eq_ofNat_of_zero_le b2.1
  exact hostLanes_walk S w a b c (by omega) (by omega) (by omega)
end Go.Proofs.Ytfldhjeeoaplfaa
