/-
  The law TreeBad (package shunterlaw13), walked. Conditions: that package tree comes to what TreeSpec says.
-/
import Derived.Test.YtipdcpekepiphaaTreePathsWalk
namespace Go.Proofs.Ytipdcpekepiphaa
open Go.ChangeShapes Go.WideShapes Go.ChangeAt Go.RowKit
set_option linter.unusedVariables false

namespace Tree
theorem set_bad {ps : List Int} {k : Nat} {z : Int} (hk : k < ps.length) (hz : z < 0 ∨ (k : Int) < z) : ok (ps.set k z) = false := by
  refine low_not (k := k) (by rw [List.length_set]; exact hk) ?_
  rw [List.getD_eq_getElem?_getD, List.getElem?_set_self hk]
  simp only [Option.getD_some]
  omega
theorem lay_bad {ps : List Int} (h : ok ps = false) : layOk ps = false := by unfold layOk; rw [h]; rfl
theorem path_bad {ps : List Int} (h : ok ps = false) (v u : Int) : pathOf ps v u = [] := pathOf_not (by rw [h]; rfl)
theorem set_num {ps : List Int} {k : Nat} {z : Int} (h : ∀ x ∈ ps, I64 x) (hz : I64 z) : ∀ x ∈ ps.set k z, I64 x := by
  intro x hx
  rcases List.mem_or_eq_of_mem_set hx with e | e
  · exact h x e
  · rw [e]; exact hz
end Tree
theorem zcells_set (l : List Int) (k : Nat) (z : Int) : (zcells l).set k (.int .i64 z) = zcells (l.set k z) := by unfold zcells; rw [List.map_set]
theorem tb1 : Tree.layOk [] = false := by decide
theorem tb2 : Tree.layOk [0, 0, 0, 0, 0, 0] = false := by decide
theorem argz_nil (w : World) : ArgZ w none 0 0 [] := ⟨Zr.nil, ⟨Nat.le_refl _, Nat.zero_le _⟩, fun _ => rfl, by omega, by simp⟩
set_option maxHeartbeats 4000000 in
set_option maxRecDepth 100000 in
theorem treeBad_any (S : TreeSpec) (w : World) (a2 : Option Addr) (n2 c2 : Nat) (l : List Nat) (ho : Octs w a2 n2 l) (z4 : Int) (w4 : (Lit.int .u8 z4).wf = true) (z5 : Int) (w5 : (Lit.int .u8 z5).wf = true) :
    Calls Try.prog 3 #[.slice a2 n2 c2, .int .u8 z4, .int .u8 z5] w fun e w' => e = .returned (.bool true) ∧ Below w.heap.size w w' := by
  have HO : Hid (Octs w a2 n2 l) := ho
  have b4 := bounds_u8 w4
  have b5 := bounds_u8 w5
  obtain ⟨A, rfl⟩ := Int.eq_ofNat_of_zero_le b4.1
  obtain ⟨F, rfl⟩ := Int.eq_ofNat_of_zero_le b5.1
  have hA : A < 256 := by omega
  have hF : F < 256 := by omega
  clear ho w4 w5 b4 b5
  have hll := Tree.ofL_len l
  have HNum : Hid (∀ x ∈ Tree.ofL l, I64 x) := Tree.ok_num (Tree.ofL_ok l)
  obtain ⟨T, hT⟩ : ∃ T, Tree.ofL l = T := ⟨_, rfl⟩
  have HT : Hid (Tree.ofL l = T) := hT
  rw [hT] at hll HNum
  obtain ⟨m, hm⟩ : ∃ m, T.length = m := ⟨_, rfl⟩
  have HM : Hid (T.length = m) := hm
  rw [hm] at hll
  clear hT hm
  obtain ⟨hl1, hl2⟩ := hll
  obtain ⟨k, hk⟩ : ∃ k : Nat, (A : Int) % (m : Int) = k := ⟨A % m, by rw [Int.natCast_emod]⟩
  have hkm : k < m := by have := Int.emod_lt_of_pos (A : Int) (show (0 : Int) < (m : Int) by omega); omega
  have hm0 : m ≠ 0 := by omega
  have X1 : Hid (Tree.ok (T.set k ((k : Int) + 1 + F)) = false ∧ ∀ x ∈ T.set k ((k : Int) + 1 + F), I64 x) := ⟨Tree.set_bad (by have := HM.out; omega) (.inr (by omega)), Tree.set_num HNum.out (by unfold I64; omega)⟩
  have Y1 : Hid (Tree.ok (T.set k (-1 - (F : Int))) = false ∧ ∀ x ∈ T.set k (-1 - (F : Int)), I64 x) := ⟨Tree.set_bad (by have := HM.out; omega) (.inl (by omega)), Tree.set_num HNum.out (by unfold I64; omega)⟩
  go_enter Try.func3, Try.ntmps3
  go_wp2_with fail
  refine (of_any HO.out).mono ?_
  rintro e w2 ⟨t2, rfl, hown2, hB2⟩
  rw [HT.out] at hown2
  obtain ⟨ta, tc, ht2, hz2⟩ := argz_of_owns hown2 (by have := HM.out; omega) HNum.out
  rw [HM.out] at ht2 hz2
  subst ht2
  have HZ2 : Hid (ArgZ w2 ta m tc T) := hz2
  have hnil := hz2.nil
  have HNil : Hid (ta = none → m = 0 ∧ tc = 0) := fun e => ⟨by have := hz2.cap.1; have := hz2.nil e; omega, hz2.nil e⟩
  have HB2 : Hid (Below w.heap.size w w2) := hB2
  clear hown2 hz2 hB2 hnil
  go_upto_region 5 with (at_builtin; refine wpList_append_z rfl (.tmp 26) (.tmp 27) rfl w2.heap.size (.slice none 0 0) [] rfl (World.ownsRow_nil _ _ _ _) (Nat.le_refl _) ta m tc T rfl HZ2.out.z HNil.out (by simp; omega) T rfl ?_; intro v9 w3 hown3 hB3)
  try rw [hk]
  obtain ⟨xa, xc, hxv, hxz, hxc1, hxc2, _, hxg⟩ := zr_of_owns hown3
  rw [HM.out] at hxv hxz hxc1
  subst hxv
  rcases hxg with ⟨hx0, hx1⟩ | ⟨g, rfl, hg1, hg2⟩
  · have := HM.out
    rw [hx1] at this
    simp at this
    omega
  rw [HM.out] at hown3
  have HO3 : Hid (w3.ownsRow w2.heap.size 3 1 (.slice (some ⟨g, 0, none⟩) m xc) m (zcells T)) := hown3
  have HB3 : Hid (Below w2.heap.size w2 w3) := hB3
  have cX := zr_get hxz k hkm
  rw [Nat.zero_add] at cX
  have fX : w3.frozen? ⟨g, k, none⟩ = false := hown3.frozenAt k
  have wX : IntKind.i64.wrap ((k : Int) + 1 + F) = (k : Int) + 1 + F := by simp only [IntKind.wrap_i64]; omega
  generalize T.getD k 0 = old at cX
  clear hxz hown3 hB3
  go_upto_region 7 with fail
  have HO4 : Hid ((w3.setCell ⟨g, k, none⟩ (.int .i64 ((k : Int) + 1 + F))).ownsRow w2.heap.size 3 1 (.slice (some ⟨g, 0, none⟩) m xc) (T.set k ((k : Int) + 1 + F)).length (zcells (T.set k ((k : Int) + 1 + F)))) := by
    have h := (HO3.out.stored k (.int .i64 ((k : Int) + 1 + F))).1
    rw [zcells_set] at h
    rw [List.length_set, HM.out]
    exact h
  have HB4 : Hid (Below w2.heap.size w2 (w3.setCell ⟨g, k, none⟩ (.int .i64 ((k : Int) + 1 + F)))) := HB3.out.setCell hg1 _
  clear HO3 HB3 cX fX
  generalize w3.setCell _ _ = w4 at HO4 HB4 ⊢
  have hw4 := HB4.out.size
  go_upto_region 8 with (at_builtin; refine wpList_append_z rfl (.tmp 37) (.tmp 38) rfl w4.heap.size (.slice none 0 0) [] rfl (World.ownsRow_nil _ _ _ _) (Nat.le_refl _) ta m tc T rfl (HZ2.out.z.below HB4.out) HNil.out (by simp; omega) T rfl ?_; intro v10 w6 hown6 hB6)
  obtain ⟨ya, yc, hyv, hyz, hyc1, hyc2, _, hyg⟩ := zr_of_owns hown6
  rw [HM.out] at hyv hyz hyc1
  subst hyv
  rcases hyg with ⟨hy0, hy1⟩ | ⟨gy, rfl, hgy1, hgy2⟩
  · have := HM.out
    rw [hy1] at this
    simp at this
    omega
  rw [HM.out] at hown6
  have HO6 : Hid (w6.ownsRow w4.heap.size 3 1 (.slice (some ⟨gy, 0, none⟩) m yc) m (zcells T)) := hown6
  have HB6 : Hid (Below w4.heap.size w4 w6) := hB6
  have cY := zr_get hyz k hkm
  rw [Nat.zero_add] at cY
  have fY : w6.frozen? ⟨gy, k, none⟩ = false := hown6.frozenAt k
  have wY : IntKind.i64.wrap (-1 - (F : Int)) = -1 - (F : Int) := by simp only [IntKind.wrap_i64]; omega
  generalize T.getD k 0 = old2 at cY
  clear hyz hown6 hB6
  go_upto_region 9 with fail
  have HO7 : Hid ((w6.setCell ⟨gy, k, none⟩ (.int .i64 (-1 - (F : Int)))).ownsRow w4.heap.size 3 1 (.slice (some ⟨gy, 0, none⟩) m yc) (T.set k (-1 - (F : Int))).length (zcells (T.set k (-1 - (F : Int))))) := by
    have h := (HO6.out.stored k (.int .i64 (-1 - (F : Int)))).1
    rw [zcells_set] at h
    rw [List.length_set, HM.out]
    exact h
  have HB7 : Hid (Below w4.heap.size w4 (w6.setCell ⟨gy, k, none⟩ (.int .i64 (-1 - (F : Int))))) := HB6.out.setCell hgy1 _
  clear HO6 HB6 cY fY
  generalize w6.setCell _ _ = w5 at HO7 HB7 ⊢
  have HX5 : Hid (ArgZ w5 (some ⟨g, 0, none⟩) m xc (T.set k ((k : Int) + 1 + F))) := by
    obtain ⟨a, c, e, hz⟩ := argz_of_owns (owns_below HO4.out HB7.out) (by rw [List.length_set]; have := HM.out; omega) X1.out.2
    rw [List.length_set, HM.out] at e hz
    cases e
    exact hz
  have HY5 : Hid (ArgZ w5 (some ⟨gy, 0, none⟩) m yc (T.set k (-1 - (F : Int)))) := by
    obtain ⟨a, c, e, hz⟩ := argz_of_owns HO7.out (by rw [List.length_set]; have := HM.out; omega) Y1.out.2
    rw [List.length_set, HM.out] at e hz
    cases e
    exact hz
  have HBw : Hid (Below w.heap.size w w5) := later (later HB2.out HB4.out) HB7.out
  clear HO4 HO7 HB4 HB7 HZ2 HNil HB2
  go_wp2_with fail
  refine (S.lay0 HX5.out).mono ?_
  rintro e wa ⟨hE, hBa⟩
  have hE := hE.no (Tree.lay_bad X1.out.1)
  subst hE
  simp only [pz, PV.val]
  have HBa : Hid (Below w5.heap.size w5 wa) := hBa
  clear hBa
  go_upto_region 10 with fail
  have HBa2 : Hid (Below w5.heap.size w5 (wa.alloc (PV.obj pz))) := later HBa.out (fresh _ _)
  simp only [PV.obj, pz] at HBa2
  clear HBa
  generalize wa.alloc _ = wb at HBa2 ⊢
  go_wp2_with fail
  refine (S.lay0 (HY5.out.below HBa2.out)).mono ?_
  rintro e wc ⟨hE, hBc⟩
  have hE := hE.no (Tree.lay_bad Y1.out.1)
  subst hE
  simp only [pz, PV.val]
  have HBc : Hid (Below w5.heap.size w5 wc) := later HBa2.out hBc
  clear hBc HBa2
  go_upto_region 11 with fail
  have HBd : Hid (Below w5.heap.size w5 (wc.alloc (PV.obj pz))) := later HBc.out (fresh _ _)
  simp only [PV.obj, pz] at HBd
  clear HBc
  generalize wc.alloc _ = wd at HBd ⊢
  go_wp2_with fail
  refine (S.lay0 (argz_nil _)).mono ?_
  rintro e we ⟨hE, hBe⟩
  have hE := hE.no tb1
  subst hE
  simp only [pz, PV.val]
  have HBe : Hid (Below w5.heap.size w5 we) := later HBd.out hBe
  clear hBe HBd
  go_upto_region 12 with fail
  have HBf : Hid (Below w5.heap.size w5 (we.alloc (PV.obj pz))) := later HBe.out (fresh _ _)
  simp only [PV.obj, pz] at HBf
  clear HBe
  generalize we.alloc _ = wf at HBf ⊢
  go_wp2_with fail
  refine (S.lay0 (argz_lit wf [0, 0, 0, 0, 0, 0] _ rfl (by simp) (fun x hx => by simp at hx; subst hx; exact i64_small (by omega)))).mono ?_
  rintro e wg ⟨hE, hBg⟩
  have hE := hE.no tb2
  subst hE
  simp only [pz, PV.val]
  have HBg : Hid (Below w5.heap.size w5 wg) := later (later HBf.out (fresh _ _)) hBg
  clear hBg HBf
  go_upto_region 13 with fail
  have HBh : Hid (Below w5.heap.size w5 (wg.alloc (PV.obj pz))) := later HBg.out (fresh _ _)
  simp only [PV.obj, pz] at HBh
  clear HBg
  generalize wg.alloc _ = wh at HBh ⊢
  go_wp2_with (first | (go_at_call 14; refine (S.path' (HX5.out.below HBi.out) 0 1 (i64_small (by omega)) (i64_small (by omega)) [] (Tree.path_bad X1.out.1 0 1) 0 rfl).mono ?_; rintro e wj ⟨ja, jc, rfl, hzj, hBj⟩; have HBj : Hid (Below w5.heap.size w5 wj) := later HBi.out hBj; clear hzj hBj) | (go_at_call 13; refine (tknown_any S _).mono ?_; rintro e wi ⟨rfl, hBi⟩; have HBi : Hid (Below w5.heap.size w5 wi) := later HBh.out hBi; clear hBi))
  go_ret
  exact ⟨rfl, later HBw.out HBj.out⟩
end Go.Proofs.Ytipdcpekepiphaa
