/-
  The law TreeParts (package shunterlaw13), walked. Conditions: that package tree comes to what TreeSpec says.
-/
import Derived.Test.YtipdcpekepiphaaTreePathsWalk
namespace Go.Proofs.Ytipdcpekepiphaa
open Go.ChangeShapes Go.WideShapes Go.ChangeAt Go.RowKit
set_option linter.unusedVariables false

namespace Tree
/-- what is known of a path of a tree -/
structure Way (ps : List Int) (v w : Nat) (L : List Int) : Prop where
  is : pathOf ps (v : Int) (w : Int) = L
  len : 1 ≤ L.length ∧ L.length ≤ 6
  first : L.getD 0 0 = (v : Int)
  last : L.getD (L.length - 1) 0 = (w : Int)
  node : ∀ i, i < L.length → ∃ k : Nat, L.getD i 0 = (k : Int) ∧ k ≤ ps.length
  back : pathOf ps (w : Int) (v : Int) = L.reverse
  rest : ∀ i (k : Nat), i < L.length → L.getD i 0 = (k : Int) → pathOf ps (k : Int) (w : Int) = L.drop i ∧ pathOf ps (v : Int) (k : Int) = L.take (i + 1)
  once : L.Nodup
  edge : ∀ i, i + 1 < L.length → (L.getD i 0, L.getD (i + 1) 0) ∈ edges ps ∨ (L.getD (i + 1) 0, L.getD i 0) ∈ edges ps
theorem way_of {ps : List Int} (ho : ok ps = true) {v w : Nat} (hv : v ≤ ps.length) (hw : w ≤ ps.length) : Way ps v w (path ps v w) := by
  have h1 := of_ask2 ends_all ho hv hw
  have h2 := of_ask2 parts_all ho hv hw
  have h3 := of_ask2 ways_all ho hv hw
  unfold q_ends at h1
  unfold q_parts at h2
  unfold q_ways at h3
  simp only [Bool.and_eq_true, Bool.or_eq_true, decide_eq_true_eq, beq_iff_eq, List.all_eq_true, List.mem_range] at h1 h2 h3
  obtain ⟨⟨⟨⟨⟨⟨e1, e2⟩, e3⟩, e4⟩, e5⟩, e6⟩, e7⟩ := h1
  have node : ∀ i, i < (path ps v w).length → ∃ k : Nat, (path ps v w).getD i 0 = (k : Int) ∧ k ≤ ps.length := by
    intro i hi
    have hm : (path ps v w).getD i 0 ∈ path ps v w := by
      rw [List.getD_eq_getElem?_getD, List.getElem?_eq_getElem hi]
      exact List.getElem_mem hi
    have := e5 _ hm
    unfold isNode at this
    simp only [Bool.and_eq_true, decide_eq_true_eq] at this
    exact ⟨((path ps v w).getD i 0).toNat, by omega, by omega⟩
  refine ⟨pathOf_ok ho hv hw, ⟨by omega, e1⟩, e3, e4, node, by rw [pathOf_ok ho hw hv, e6], ?_, h3.1, ?_⟩
  · intro i k hi hk
    have h4 := h2 i hi
    obtain ⟨k', hk', hk2⟩ := node i hi
    have hkk : k' = k := by rw [hk] at hk'; omega
    subst hkk
    rw [hk, Int.toNat_natCast] at h4
    rw [pathOf_ok ho hk2 hw, pathOf_ok ho hv hk2]
    exact h4
  · intro i hi
    have h4 := h3.2 (i + 1) hi
    rw [Nat.add_sub_cancel] at h4
    rcases h4 with (h4 | h4) | h4
    · omega
    · exact .inl h4
    · exact .inr h4
end Tree
set_option maxHeartbeats 4000000 in
set_option maxRecDepth 100000 in
theorem treeParts_any (S : TreeSpec) (w : World) (a2 : Option Addr) (n2 c2 : Nat) (l : List Nat) (ho : Octs w a2 n2 l) (z4 : Int) (w4 : (Lit.int .u8 z4).wf = true) (z5 : Int) (w5 : (Lit.int .u8 z5).wf = true) :
    Calls Try.prog 5 #[.slice a2 n2 c2, .int .u8 z4, .int .u8 z5] w fun e w' => e = .returned (.bool true) ∧ Below w.heap.size w w' := by
  have HO : Hid (Octs w a2 n2 l) := ho
  have b4 := bounds_u8 w4
  have b5 := bounds_u8 w5
  obtain ⟨A, rfl⟩ := Int.eq_ofNat_of_zero_le b4.1
  obtain ⟨B, rfl⟩ := Int.eq_ofNat_of_zero_le b5.1
  have hA : A < 256 := by omega
  have hB : B < 256 := by omega
  clear ho w4 w5 b4 b5
  have hll := Tree.ofL_len l
  have HOk : Hid (Tree.ok (Tree.ofL l) = true) := Tree.ofL_ok l
  have HNum : Hid (∀ x ∈ Tree.ofL l, I64 x) := Tree.ok_num (Tree.ofL_ok l)
  obtain ⟨T, hT⟩ : ∃ T, Tree.ofL l = T := ⟨_, rfl⟩
  have HT : Hid (Tree.ofL l = T) := hT
  rw [hT] at hll HOk HNum
  obtain ⟨m, hm⟩ : ∃ m, T.length = m := ⟨_, rfl⟩
  have HM : Hid (T.length = m) := hm
  rw [hm] at hll
  clear hT hm
  obtain ⟨x, hx⟩ : ∃ x : Nat, (A : Int) % ((m : Int) + 1) = x := ⟨A % (m + 1), by rw [Int.natCast_emod]; rfl⟩
  obtain ⟨y, hy⟩ : ∃ y : Nat, (B : Int) % ((m : Int) + 1) = y := ⟨B % (m + 1), by rw [Int.natCast_emod]; rfl⟩
  have hxm : x ≤ m := by have := Int.emod_lt_of_pos (A : Int) (show (0 : Int) < (m : Int) + 1 by omega); omega
  have hym : y ≤ m := by have := Int.emod_lt_of_pos (B : Int) (show (0 : Int) < (m : Int) + 1 by omega); omega
  obtain ⟨hl1, hl2⟩ := hll
  have HWay : Hid (Tree.Way T x y (Tree.path T x y)) := Tree.way_of HOk.out (by have := HM.out; omega) (by have := HM.out; omega)
  obtain ⟨L, hL⟩ : ∃ L, Tree.path T x y = L := ⟨_, rfl⟩
  rw [hL] at HWay
  clear hL
  obtain ⟨k, hk⟩ : ∃ k, L.length = k := ⟨_, rfl⟩
  have HK : Hid (L.length = k) := hk
  have hk6 : 1 ≤ k ∧ k ≤ 6 := by rw [← hk]; exact HWay.out.len
  obtain ⟨hk1, hk6⟩ := hk6
  clear hk
  go_enter Try.func5, Try.ntmps5
  go_wp2_with fail
  refine (of_any HO.out).mono ?_
  rintro e w2 ⟨t2, rfl, hown2, hB2⟩
  rw [HT.out] at hown2
  obtain ⟨ta, tc, ht2, hz2⟩ := argz_of_owns hown2 (by have := HM.out; omega) HNum.out
  rw [HM.out] at ht2 hz2
  subst ht2
  have HZ2 : Hid (ArgZ w2 ta m tc T) := hz2
  have HB2 : Hid (Below w.heap.size w w2) := hB2
  clear hown2 hz2 hB2
  go_wp2_with fail
  rw [hx, hy]
  refine (S.path' HZ2.out (x : Int) (y : Int) (i64_small (by omega)) (i64_small (by omega)) L HWay.out.is k HK.out).mono ?_
  rintro e w3 ⟨la, lc, rfl, hz3, hB3⟩
  have hlc := hz3.cap
  have HL3 : Hid (Zr w3 la k L) := hz3.z
  have HT3 : Hid (ArgZ w3 ta m tc T) := HZ2.out.below hB3
  have HB3 : Hid (Below w.heap.size w w3) := later HB2.out hB3
  obtain ⟨hlc1, hlc2⟩ := hlc
  clear hz3 hB3 HZ2 HB2
  go_wp2_with fail
  go_loopw [11] (fun i wr => ∃ t : Nat, t ≤ k ∧ i = .int .i64 t ∧ Below w3.heap.size w3 wr) (fun i _ => k - (intOf i).toNat)
  case atStart => exact ⟨0, Nat.zero_le _, rfl, Below.refl _ _⟩
  case round =>
    obtain ⟨i, hi, rfl, hBr⟩ := hrel
    have HBr : Hid (Below w3.heap.size w3 wr) := hBr
    clear hBr
    by_cases hik : i < k
    · obtain ⟨b, off, hla, cL⟩ := (HL3.out.below HBr.out).at hik
      subst hla
      obtain ⟨yn, hyn, hyn2⟩ := HWay.out.node i (by have := HK.out; omega)
      obtain ⟨hr1, hr2⟩ := HWay.out.rest i yn (by have := HK.out; omega) hyn
      rw [hyn] at cL
      have hynm : yn ≤ m := by have := HM.out; omega
      have HQ1 : Hid (Tree.pathOf T (yn : Int) (y : Int) = L.drop i ∧ (L.drop i).length = k - i) := ⟨hr1, by rw [List.length_drop]; have := HK.out; omega⟩
      have HQ2 : Hid (Tree.pathOf T (x : Int) (yn : Int) = L.take (i + 1) ∧ (L.take (i + 1)).length = i + 1) := ⟨hr2, by rw [List.length_take]; have := HK.out; omega⟩
      have cd : wr.drew.cell? ⟨b, off + i, none⟩ = some (.int .i64 (yn : Int)) := cL
      have Kd : Hid (wr.drew.cell? ⟨b, off + i, none⟩ = some (.int .i64 (yn : Int))) := cL
      have HTd : Hid (ArgZ wr.drew ta m tc T) := HT3.out.below HBr.out.drew
      have HLd : Hid (Zr wr.drew (some ⟨b, off, none⟩) k L) := HL3.out.below HBr.out.drew
      have HBd : Hid (Below w3.heap.size w3 wr.drew) := HBr.out.drew
      have hcap1 : (i : Int) + 1 ≤ lc := by omega
      have hcap2 : (i : Int) ≤ k := by omega
      have h0i : (0 : Int) ≤ (i : Int) + 1 := by omega
      have h0j : (0 : Int) ≤ (i : Int) := by omega
      have hcn : i + 1 ≤ lc := by omega
      have htn : ((i : Int) + 1).toNat = i + 1 := by omega
      have wi : IntKind.i64.wrap ((i : Int) + 1) = (i : Int) + 1 := by simp only [IntKind.wrap_i64]; omega
      clear hyn hr1 hr2 hyn2 cd
      go_wp2_with fail
      go_region_held3 (fun w' => w'.cell? ⟨b, off + i, none⟩ = some (.int .i64 (yn : Int))) (first | exact K4.out | exact K3.out | exact K2.out | exact K1.out | exact Kd.out) (first | (go_at_call 16; refine (tsame_any HP3.out (zr_cut HL3x.out (by omega)) (by omega)).mono ?_; rintro e w7 ⟨rfl, hB7⟩; have HB7 : Hid (Below w3.heap.size w3 w7) := later HB6.out hB7; have K4 : Hid (w7.cell? ⟨b, off + i, none⟩ = some (.int .i64 (yn : Int))) := (hB7.cell (p := ⟨b, off + i, none⟩) (cell_lt K3.out)).trans K3.out; clear hB7) | (go_at_call 14; refine (S.path' HT2x.out (x : Int) (yn : Int) (i64_small (by omega)) (i64_small (by omega)) (L.take (i + 1)) HQ2.out.1 (i + 1) HQ2.out.2).mono ?_; rintro e w6 ⟨p6, c6, rfl, hz6, hB6⟩; have HB6 : Hid (Below w3.heap.size w3 w6) := later HB5.out hB6; have HP3 : Hid (Zr w6 p6 (i + 1) (L.take (i + 1))) := hz6.z; have HL3x : Hid (Zr w6 (some ⟨b, off, none⟩) k L) := HL2x.out.below hB6; have K3 : Hid (w6.cell? ⟨b, off + i, none⟩ = some (.int .i64 (yn : Int))) := (hB6.cell (p := ⟨b, off + i, none⟩) (cell_lt K2.out)).trans K2.out; clear hz6 hB6) | (go_at_call 16; refine (tsame_any HP1.out (HL1x.out.drop (by omega)) (by omega)).mono ?_; rintro e w5 ⟨rfl, hB5⟩; have HB5 : Hid (Below w3.heap.size w3 w5) := later HB4.out hB5; have HT2x : Hid (ArgZ w5 ta m tc T) := HT1x.out.below hB5; have HL2x : Hid (Zr w5 (some ⟨b, off, none⟩) k L) := HL1x.out.below hB5; have K2 : Hid (w5.cell? ⟨b, off + i, none⟩ = some (.int .i64 (yn : Int))) := (hB5.cell (p := ⟨b, off + i, none⟩) (cell_lt K1.out)).trans K1.out; clear hB5) | (go_at_call 14; refine (S.path' HTd.out (yn : Int) (y : Int) (i64_small (by omega)) (i64_small (by omega)) (L.drop i) HQ1.out.1 (k - i) HQ1.out.2).mono ?_; rintro e w4 ⟨p4, c4, rfl, hz4, hB4⟩; have HB4 : Hid (Below w3.heap.size w3 w4) := later HBd.out hB4; have HT1x : Hid (ArgZ w4 ta m tc T) := HTd.out.below hB4; have HP1 : Hid (Zr w4 p4 (k - i) (L.drop i)) := hz4.z; have HL1x : Hid (Zr w4 (some ⟨b, off, none⟩) k L) := HLd.out.below hB4; have K1 : Hid (w4.cell? ⟨b, off + i, none⟩ = some (.int .i64 (yn : Int))) := (hB4.cell (p := ⟨b, off + i, none⟩) (cell_lt Kd.out)).trans Kd.out; clear hz4 hB4))
      go_wp2_with fail
      go_roundw
      case rel => first | exact ⟨i + 1, by omega, by go_num, HB7.out⟩ | ((repeat apply Exists.intro); exact ⟨⟨i + 1, by omega, by go_num, HB7.out⟩, rfl⟩)
      case measure => simp [intOf]; omega
    · obtain rfl : i = k := by omega
      have hi0 : (0 : Int) < i := by omega
      go_wp2_with (go_at_call 13; refine (tknown_any S _).mono ?_; rintro e w8 ⟨rfl, hB8⟩; have HB8 : Hid (Below w.heap.size w w8) := later (later HB3.out HBr.out) hB8; clear hB8)
      go_ret
      exact ⟨by simp; omega, HB8.out⟩
end Go.Proofs.Ytipdcpekepiphaa
