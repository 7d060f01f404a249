/-
  The law TreePaths (package shunterlaw13), walked. Conditions: that package tree comes to what TreeSpec says.
-/
import Derived.Test.YtipdcpekepiphaaTreeKnown
namespace Go.Proofs.Ytipdcpekepiphaa
open Go.ChangeShapes Go.WideShapes Go.ChangeAt Go.RowKit
set_option linter.unusedVariables false

theorem path_len {ps : List Int} {v u : Int} : (Tree.pathOf ps v u).length ≤ 6 := by
  unfold Tree.pathOf
  split
  · rename_i h
    simp only [Bool.and_eq_true, Tree.isNode, decide_eq_true_eq] at h
    have h2 := Tree.of_ask2 Tree.ends_all h.1.1 (v := v.toNat) (w := u.toNat) (by omega) (by omega)
    unfold Tree.q_ends at h2
    simp only [Bool.and_eq_true, decide_eq_true_eq] at h2
    exact h2.1.1.1.1.1.1
  · simp
set_option maxHeartbeats 2000000 in
set_option maxRecDepth 100000 in
theorem treePaths_any (S : TreeSpec) (w : World) (a : Option Addr) (n c : Nat) (ps : List Int) (hz : ArgZ w a n c ps) (a2 : Option Addr) (n2 c2 : Nat) (l : List Nat) (ho : Octs w a2 n2 l) (v : Int) (wv : (Lit.int .i64 v).wf = true) (u : Int) (wu : (Lit.int .i64 u).wf = true) (z4 : Int) (w4 : (Lit.int .u8 z4).wf = true) (z5 : Int) (w5 : (Lit.int .u8 z5).wf = true) :
    Calls Try.prog 6 #[.slice a n c, .slice a2 n2 c2, .int .i64 v, .int .i64 u, .int .u8 z4, .int .u8 z5] w fun e w' => e = .returned (.bool true) ∧ Below w.heap.size w w' := by
  have HZ : Hid (ArgZ w a n c ps) := hz
  have HO : Hid (Octs w a2 n2 l) := ho
  have hv : I64 v := ⟨(bounds_i64 wv).1, (bounds_i64 wv).2⟩
  have hu : I64 u := ⟨(bounds_i64 wu).1, (bounds_i64 wu).2⟩
  have b4 := bounds_u8 w4
  have b5 := bounds_u8 w5
  obtain ⟨A, rfl⟩ := Int.eq_ofNat_of_zero_le b4.1
  obtain ⟨B, rfl⟩ := Int.eq_ofNat_of_zero_le b5.1
  have hA : A < 256 := by omega
  have hB : B < 256 := by omega
  have hbig := hz.big
  have HV : Hid (I64 v ∧ I64 u) := ⟨hv, hu⟩
  clear hz ho wv wu w4 w5 b4 b5 hv hu
  by_cases h50 : 50 < n
  · have h50' : (50 : Int) < n := by omega
    go_enter Try.func6, Try.ntmps6
    go_wp2_with (go_at_call 13; refine (tknown_any S _).mono ?_; rintro e w1 ⟨rfl, hB1⟩)
    go_ret
    exact ⟨rfl, hB1⟩
  · have h50' : ¬ (50 : Int) < n := by omega
    have hll := Tree.ofL_len l
    have HOk : Hid (Tree.ok (Tree.ofL l) = true) := Tree.ofL_ok l
    have HNum : Hid (∀ x ∈ Tree.ofL l, I64 x) := Tree.ok_num (Tree.ofL_ok l)
    obtain ⟨T, hT⟩ : ∃ T, Tree.ofL l = T := ⟨_, rfl⟩
    have HT : Hid (Tree.ofL l = T) := hT
    rw [hT] at hll HOk HNum
    obtain ⟨m, hm⟩ : ∃ m, T.length = m := ⟨_, rfl⟩
    have HM : Hid (T.length = m) := hm
    rw [hm] at hll
    clear hT hm
    obtain ⟨x, hx⟩ : ∃ x : Nat, (A : Int) % ((m : Int) + 1) = x := ⟨A % (m + 1), by rw [Int.natCast_emod]; rfl⟩
    obtain ⟨y, hy⟩ : ∃ y : Nat, (B : Int) % ((m : Int) + 1) = y := ⟨B % (m + 1), by rw [Int.natCast_emod]; rfl⟩
    have hxm : x ≤ m := by have := Int.emod_lt_of_pos (A : Int) (show (0 : Int) < (m : Int) + 1 by omega); omega
    have hym : y ≤ m := by have := Int.emod_lt_of_pos (B : Int) (show (0 : Int) < (m : Int) + 1 by omega); omega
    obtain ⟨hl1, hl2⟩ := hll
    go_enter Try.func6, Try.ntmps6
    go_wp2_with (go_at_call 13; refine (tknown_any S _).mono ?_; rintro e w1 ⟨rfl, hB1⟩; have HB1 : Hid (Below w.heap.size w w1) := hB1; clear hB1)
    refine (of_any (HO.out.below HB1.out)).mono ?_
    rintro e w2 ⟨t2, rfl, hown2, hB2⟩
    rw [HT.out] at hown2
    obtain ⟨ta, tc, ht2, hz2⟩ := argz_of_owns hown2 (by have := HM.out; omega) HNum.out
    rw [HM.out] at ht2 hz2
    subst ht2
    have HZ2 : Hid (ArgZ w2 ta m tc T) := hz2
    have HB2 : Hid (Below w.heap.size w w2) := later HB1.out hB2
    clear hown2 hz2 hB2
    go_wp2_with fail
    rw [hx, hy]
    have HBp1 : Hid (Below w.heap.size w w2) := HB2.out
    have hk1 : (Tree.pathOf ps v u).length ≤ 6 := path_len
    obtain ⟨L1, hL1⟩ : ∃ L, Tree.pathOf ps v u = L := ⟨_, rfl⟩
    rw [hL1] at hk1
    obtain ⟨k1, hn1⟩ : ∃ n, L1.length = n := ⟨_, rfl⟩
    rw [hn1] at hk1
    have HL1 : Hid (Tree.pathOf ps v u = L1 ∧ L1.length = k1) := ⟨hL1, hn1⟩
    clear hL1 hn1
    refine (S.path' (HZ.out.below HBp1.out) v u HV.out.1 HV.out.2 L1 HL1.out.1 k1 HL1.out.2).mono ?_
    rintro e wa1 ⟨pa1, pc1, rfl, hza1, hBa1⟩
    have HBa1 : Hid (Below w.heap.size w wa1) := later HBp1.out hBa1
    have HBy : Hid (Below w2.heap.size w2 wa1) := hBa1
    have HZa1 : Hid (Zr wa1 pa1 k1 L1) := hza1.z
    clear hza1 hBa1
    go_wp2_with fail
    refine (rpath_any (HZ.out.z.below HBa1.out) (by omega) v u).mono ?_
    rintro e wb1 ⟨xb1, rfl, hob1, hBb1⟩
    rw [HL1.out.1] at hob1
    obtain ⟨pb1, qb1, hvb1, hzb1, _⟩ := zr_of_owns hob1
    rw [HL1.out.2] at hvb1 hzb1
    subst hvb1
    have HBb1 : Hid (Below w.heap.size w wb1) := later HBa1.out hBb1
    have HBz : Hid (Below w2.heap.size w2 wb1) := later HBy.out hBb1
    have HZc1 : Hid (Zr wb1 pa1 k1 L1) := HZa1.out.below hBb1
    have HZb1 : Hid (Zr wb1 pb1 k1 L1) := hzb1
    clear hob1 hzb1 hBb1
    go_wp2_with fail
    refine (tsame_any HZc1.out HZb1.out (by omega)).mono ?_
    rintro e ws1 ⟨rfl, hBs1⟩
    have HBs1 : Hid (Below w.heap.size w ws1) := later HBb1.out hBs1
    have HBx : Hid (Below w2.heap.size w2 ws1) := later HBz.out hBs1
    clear hBs1
    go_wp2_with fail
    have HBt2 : Hid (Below w2.heap.size w2 ws1) := HBx.out
    have hk2 : (Tree.pathOf T (x : Int) (y : Int)).length ≤ 6 := path_len
    obtain ⟨L2, hL2⟩ : ∃ L, Tree.pathOf T (x : Int) (y : Int) = L := ⟨_, rfl⟩
    rw [hL2] at hk2
    obtain ⟨k2, hn2⟩ : ∃ n, L2.length = n := ⟨_, rfl⟩
    rw [hn2] at hk2
    have HL2 : Hid (Tree.pathOf T (x : Int) (y : Int) = L2 ∧ L2.length = k2) := ⟨hL2, hn2⟩
    clear hL2 hn2
    refine (S.path' (HZ2.out.below HBt2.out) (x : Int) (y : Int) (i64_small (by omega)) (i64_small (by omega)) L2 HL2.out.1 k2 HL2.out.2).mono ?_
    rintro e wa2 ⟨pa2, pc2, rfl, hza2, hBa2⟩
    have HBq2 : Hid (Below ws1.heap.size ws1 wa2) := hBa2
    have HBa2 : Hid (Below w.heap.size w wa2) := later HBs1.out hBa2
    have HZa2 : Hid (Zr wa2 pa2 k2 L2) := hza2.z
    clear hza2 hBa2
    go_wp2_with fail
    refine (rpath_any (HZ2.out.z.below (later HBt2.out HBq2.out)) (by omega) (x : Int) (y : Int)).mono ?_
    rintro e wb2 ⟨xb2, rfl, hob2, hBb2⟩
    rw [HL2.out.1] at hob2
    obtain ⟨pb2, qb2, hvb2, hzb2, _⟩ := zr_of_owns hob2
    rw [HL2.out.2] at hvb2 hzb2
    subst hvb2
    have HBb2 : Hid (Below w.heap.size w wb2) := later HBa2.out hBb2
    have HZc2 : Hid (Zr wb2 pa2 k2 L2) := HZa2.out.below hBb2
    have HZb2 : Hid (Zr wb2 pb2 k2 L2) := hzb2
    clear hob2 hzb2 hBb2
    go_wp2_with fail
    refine (tsame_any HZc2.out HZb2.out (by omega)).mono ?_
    rintro e ws2 ⟨rfl, hBs2⟩
    have HBs2 : Hid (Below w.heap.size w ws2) := later HBb2.out hBs2
    clear hBs2
    go_wp2_with fail
    go_ret
    exact ⟨rfl, HBs2.out⟩
end Go.Proofs.Ytipdcpekepiphaa
