/-
  The law TreeWays (package shunterlaw13), walked. Conditions: that package tree comes to what TreeSpec says.
-/
import Derived.Test.YtipdcpekepiphaaTreePort
import Derived.Test.YtipdcpekepiphaaTreeLaid
import Derived.Test.YtipdcpekepiphaaSince2
namespace Go.Proofs.Ytipdcpekepiphaa
open Go.ChangeShapes Go.WideShapes Go.ChangeAt Go.RowKit
set_option linter.unusedVariables false

set_option maxHeartbeats 4000000 in
set_option maxRecDepth 100000 in
theorem treeWays_any (S : TreeSpec) (w : World) (a2 : Option Addr) (n2 c2 : Nat) (l : List Nat) (ho : Octs w a2 n2 l) (z4 : Int) (w4 : (Lit.int .u8 z4).wf = true) (z5 : Int) (w5 : (Lit.int .u8 z5).wf = true) :
    Calls Try.prog 8 #[.slice a2 n2 c2, .int .u8 z4, .int .u8 z5] w fun e w' => e = .returned (.bool true) ∧ Below w.heap.size w w' := by
  have HO : Hid (Octs w a2 n2 l) := ho
  have b4 := bounds_u8 w4
  have b5 := bounds_u8 w5
  obtain ⟨A, rfl⟩ := Int.eq_ofNat_of_zero_le b4.1
  obtain ⟨B, rfl⟩ := Int.eq_ofNat_of_zero_le b5.1
  have hA : A < 256 := by omega
  have hB : B < 256 := by omega
  clear ho w4 w5 b4 b5
  have hll := Tree.ofL_len l
  have HOk : Hid (Tree.ok (Tree.ofL l) = true) := Tree.ofL_ok l
  have HLy : Hid (Tree.layOk (Tree.ofL l) = true) := Tree.ofL_lay l
  have HNum : Hid (∀ x ∈ Tree.ofL l, I64 x) := Tree.ok_num (Tree.ofL_ok l)
  obtain ⟨T, hT⟩ : ∃ T, Tree.ofL l = T := ⟨_, rfl⟩
  have HT : Hid (Tree.ofL l = T) := hT
  rw [hT] at hll HOk HNum HLy
  obtain ⟨m, hm⟩ : ∃ m, T.length = m := ⟨_, rfl⟩
  have HM : Hid (T.length = m) := hm
  rw [hm] at hll
  clear hT hm
  obtain ⟨x, hx⟩ : ∃ x : Nat, (A : Int) % ((m : Int) + 1) = x := ⟨A % (m + 1), by rw [Int.natCast_emod]; rfl⟩
  obtain ⟨y, hy⟩ : ∃ y : Nat, (B : Int) % ((m : Int) + 1) = y := ⟨B % (m + 1), by rw [Int.natCast_emod]; rfl⟩
  have hxm : x ≤ m := by have := Int.emod_lt_of_pos (A : Int) (show (0 : Int) < (m : Int) + 1 by omega); omega
  have hym : y ≤ m := by have := Int.emod_lt_of_pos (B : Int) (show (0 : Int) < (m : Int) + 1 by omega); omega
  obtain ⟨hl1, hl2⟩ := hll
  have HWay : Hid (Tree.Way T x y (Tree.path T x y)) := Tree.way_of HOk.out (by have := HM.out; omega) (by have := HM.out; omega)
  have HPo : Hid (∀ i, 0 < i → i < (Tree.path T x y).length → 0 ≤ Plan.port (Tree.edges T) ((Tree.path T x y).getD (i - 1) 0) ((Tree.path T x y).getD i 0)) := fun i h0 hi => Tree.port_ok HOk.out (by have := HM.out; omega) (by have := HM.out; omega) h0 hi
  obtain ⟨L, hL⟩ : ∃ L, Tree.path T x y = L := ⟨_, rfl⟩
  rw [hL] at HWay HPo
  clear hL
  obtain ⟨k, hk⟩ : ∃ k, L.length = k := ⟨_, rfl⟩
  have HK : Hid (L.length = k) := hk
  have hk6 : 1 ≤ k ∧ k ≤ 6 := by rw [← hk]; exact HWay.out.len
  obtain ⟨hk1, hk6⟩ := hk6
  clear hk
  go_enter Try.func8, Try.ntmps8
  go_wp2_with fail
  refine (of_any HO.out).mono ?_
  rintro e w2 ⟨t2, rfl, hown2, hB2⟩
  rw [HT.out] at hown2
  obtain ⟨ta, tc, ht2, hz2⟩ := argz_of_owns hown2 (by have := HM.out; omega) HNum.out
  rw [HM.out] at ht2 hz2
  subst ht2
  have HZ2 : Hid (ArgZ w2 ta m tc T) := hz2
  have HB2 : Hid (Below w.heap.size w w2) := hB2
  clear hown2 hz2 hB2
  go_wp2_with fail
  rw [hx, hy]
  refine (S.path' HZ2.out (x : Int) (y : Int) (i64_small (by omega)) (i64_small (by omega)) L HWay.out.is k HK.out).mono ?_
  rintro e w3 ⟨la, lc, rfl, hz3, hB3⟩
  have HL3 : Hid (Zr w3 la k L) := hz3.z
  have HT3 : Hid (ArgZ w3 ta m tc T) := HZ2.out.below hB3
  have HB3 : Hid (Below w.heap.size w w3) := later HB2.out hB3
  clear hz3 hB3 HZ2 HB2
  go_wp2_with fail
  refine (S.path' HT3.out (y : Int) (x : Int) (i64_small (by omega)) (i64_small (by omega)) L.reverse HWay.out.back k (by rw [List.length_reverse]; exact HK.out)).mono ?_
  rintro e w4 ⟨ma, mc, rfl, hz4, hB4⟩
  have HL4 : Hid (Zr w4 la k L) := HL3.out.below hB4
  have HR4 : Hid (Zr w4 ma k L.reverse) := hz4.z
  have HT4 : Hid (ArgZ w4 ta m tc T) := HT3.out.below hB4
  have HB4 : Hid (Below w.heap.size w w4) := later HB3.out hB4
  clear hz4 hB4 HL3 HT3 HB3
  go_wp2_with fail
  refine (S.lay0 HT4.out).mono ?_
  rintro e w5 ⟨hE, hB5⟩
  obtain ⟨q, rfl, hq⟩ := hE.yes HLy.out
  have HP5 : Hid (Pl w5 q (Tree.edges T) [] ((Tree.rows T).map List.length)) := hq.pl (argp_zero w4).pl HOk.out
  have HL5 : Hid (Zr w5 la k L) := HL4.out.below hB5
  have HR5 : Hid (Zr w5 ma k L.reverse) := HR4.out.below hB5
  have HB5 : Hid (Below w.heap.size w w5) := later HB4.out hB5
  clear hE hq hB5 HL4 HR4 HT4 HB4
  unfold PV.val
  go_upto_region 7 with fail
  have hB6 : Below w5.heap.size w5 (w5.alloc q.obj) := fresh _ _
  have HX6 : Hid (Bxd (w5.alloc q.obj) w5.heap.size q) := bxd_new _ _
  have HP6 : Hid (Pl (w5.alloc q.obj) q (Tree.edges T) [] ((Tree.rows T).map List.length)) := HP5.out.below hB6
  have HL6 : Hid (Zr (w5.alloc q.obj) la k L) := HL5.out.below hB6
  have HR6 : Hid (Zr (w5.alloc q.obj) ma k L.reverse) := HR5.out.below hB6
  have HB6 : Hid (Below w.heap.size w (w5.alloc q.obj)) := later HB5.out hB6
  clear hB6 HP5 HL5 HR5 HB5
  simp only [PV.obj] at HX6 HP6 HL6 HR6 HB6
  generalize w5.alloc _ = W at HX6 HP6 HL6 HR6 HB6 ⊢
  generalize w5.heap.size = gq at HX6 ⊢
  obtain ⟨b, o, hla, c0⟩ := HL6.out.at (show 0 < k by omega)
  subst hla
  obtain ⟨b', o', hla', c1⟩ := HL6.out.at (show k - 1 < k by omega)
  cases hla'
  obtain ⟨b2, o2, hma, _⟩ := HR6.out.at (show 0 < k by omega)
  subst hma
  rw [HWay.out.first] at c0
  have hlast := HWay.out.last
  rw [HK.out] at hlast
  rw [hlast] at c1
  rw [Nat.add_zero] at c0
  clear hlast
  have htn : ((k : Int) - 1).toNat = k - 1 := by omega
  have wk : IntKind.i64.wrap ((k : Int) - 1) = (k : Int) - 1 := by simp only [IntKind.wrap_i64]; omega
  have hk0 : (0 : Int) ≤ (k : Int) - 1 := by omega
  have hkk : k - 1 < k := by omega
  have hkne : ¬ ((k : Int) = 0) := by omega
  have hkb : ((k : Int) == 0) = false := by simp; omega
  go_wp2_with fail
  clear c0 c1 htn hkk hkne
  go_loopw [14, 15] (fun i _ wr => ∃ t : Nat, t ≤ k ∧ i = .int .i64 t ∧ Below W.heap.size W wr) (fun i _ _ => k - (intOf i).toNat)
  case atStart => exact ⟨0, Nat.zero_le _, rfl, Below.refl _ _⟩
  case round =>
    obtain ⟨t, ht, rfl, hBr⟩ := hrel
    have HBr : Hid (Below W.heap.size W wr) := hBr
    by_cases htk : t < k
    · have htk' : (t : Int) < k := by omega
      obtain ⟨r, hr⟩ : ∃ r : Nat, k - 1 - t = r := ⟨_, rfl⟩
      have wkt : IntKind.i64.wrap ((k : Int) - 1 - t) = (r : Int) := by simp only [IntKind.wrap_i64]; omega
      have hktk : r < k := by omega
      have hktI : (r : Int) < k := by omega
      obtain ⟨b', o', e1, cL⟩ := (HL6.out.below hBr).at htk
      cases e1
      obtain ⟨b', o', e1, cR⟩ := (HR6.out.below hBr).at hktk
      cases e1
      rw [← hr, Tree.rev_at HK.out htk, hr] at cR
      clear hr
      have HJ : Hid (∀ j, j < t → L.getD j 0 ≠ L.getD t 0) := fun j hj => Tree.once_at HWay.out.once hj (by have := HK.out; omega)
      by_cases ht0 : t = 0
      · subst ht0
        generalize hv : L.getD 0 0 = v at cL cR
        clear hv hBr
        rw [Nat.add_zero] at cL
        obtain rfl : r = k - 1 := by have := hk6; simp only [IntKind.wrap_i64] at wkt; omega
        clear wkt
        have g0 : ¬ (0 : Int) < ((0 : Nat) : Int) := by omega
        have hne := Since.any wr
        have d0 := fun m : Since wr => m.cell cL
        have d1 := fun m : Since wr => m.cell cR
        clear cL cR
        have g1 : decide ((0 : Int) < ((0 : Nat) : Int)) = false := decide_eq_false g0
        go_wp2_with fail
        refine region_since (u := wr) (by kernel_rfl) (by kernel_rfl) (Below.refl _ _) ?_
        repeat (go_big_quiet_step (first | fail))
        refine wpQuiet_nil ?_
        intro _ hw'
        obtain ⟨nq, hw2⟩ := hw'
        subst hw2
        have HBq : Hid (Below W.heap.size W nq.w) := HBr.out.trans (nq.h.mono HBr.out.size)
        clear hne d0 d1
        obtain ⟨Wq, hWq⟩ : ∃ Wq, nq.w = Wq := ⟨_, rfl⟩
        rw [hWq] at HBq ⊢
        clear hWq
        go_wp2_with fail
        go_loopw [15] (fun i wx => i = .int .i64 0 ∧ Below W.heap.size W wx) (fun _ _ => 0)
        case atStart => exact ⟨rfl, HBq.out⟩
        case round =>
          obtain ⟨rfl, hBs⟩ := hrel
          have HBs : Hid (Below W.heap.size W wr) := hBs
          clear hBs
          go_wp2_with fail
          go_roundw
          case rel => first | exact ⟨1, by omega, by go_num, HBs.out⟩ | ((repeat apply Exists.intro); exact ⟨⟨1, by omega, by go_num, HBs.out⟩, rfl⟩)
          case measure => simp [intOf]; omega
      · have ht0' : (0 : Int) < t := by omega
        have g1 : decide (0 < t) = true := decide_eq_true (by omega)
        obtain ⟨s, hs⟩ : ∃ s : Nat, t - 1 = s := ⟨_, rfl⟩
        have wt : IntKind.i64.wrap ((t : Int) - 1) = (s : Int) := by simp only [IntKind.wrap_i64]; omega
        have htk1 : s < k := by omega
        have htkI : (s : Int) < k := by omega
        obtain ⟨b', o', e1, cP⟩ := (HL6.out.below hBr).at htk1
        cases e1
        have hport := HPo.out t (by omega) (by have := HK.out; omega)
        rw [hs] at hport
        clear hs
        obtain ⟨v, hv⟩ : ∃ v, L.getD t 0 = v := ⟨_, rfl⟩
        obtain ⟨u, hu⟩ : ∃ u, L.getD s 0 = u := ⟨_, rfl⟩
        rw [hv] at cL cR hport
        rw [hu] at cP hport
        have HPr : Hid (∀ n : Since wr, Pl n.w q (Tree.edges T) [] ((Tree.rows T).map List.length)) := fun n => (HP6.out.below hBr).below n.h
        obtain ⟨z, hz⟩ : ∃ z, Plan.port (Tree.edges T) u v = z := ⟨_, rfl⟩
        have HZ : Hid (Plan.port (Tree.edges T) u v = z) := hz
        rw [hz] at hport
        have hport' : decide (z < 0) = false := decide_eq_false (by omega)
        obtain ⟨x0, x1, x2, x3, x4, x5, x6, x7, x8, x9, x10⟩ := HX6.out.below HBr.out
        have hne := Since.any wr
        have d0 := fun m : Since wr => m.cell cL
        have d1 := fun m : Since wr => m.cell cR
        have d2 := fun m : Since wr => m.cell cP
        have c0 := fun m : Since wr => m.cell x0
        have c1 := fun m : Since wr => m.cell x1
        have c2 := fun m : Since wr => m.cell x2
        have c3 := fun m : Since wr => m.cell x3
        have c4 := fun m : Since wr => m.cell x4
        have c5 := fun m : Since wr => m.cell x5
        have c6 := fun m : Since wr => m.cell x6
        have c7 := fun m : Since wr => m.cell x7
        have c8 := fun m : Since wr => m.cell x8
        have c9 := fun m : Since wr => m.cell x9
        have c10 := fun m : Since wr => m.cell x10
        have HPort : Hid (∀ n : Since wr, Calls Try.prog 21 #[.agg #[.int .i64 q.nodes, .slice q.ea q.en q.ec, .int .i64 q.lanes, .int .i64 q.room, .int .i64 q.queue, .int .i64 q.rounds, .int .i64 q.every, .int .i64 q.bag, .slice q.wa q.wn q.wc, .int .u16 q.start, .slice q.na q.nn q.nc], .int .i64 u, .int .i64 v] n.w fun e w' => e = .returned (.int .i64 z) ∧ Below n.w.heap.size n.w w') := fun n => by
          have h := rport_any (p := q) (HPr.out n) u v
          rw [HZ.out] at h
          exact h
        clear x0 x1 x2 x3 x4 x5 x6 x7 x8 x9 x10 cL cR cP hv hu hz hport hBr
        go_wp2_with fail
        refine region_since (u := wr) (by kernel_rfl) (by kernel_rfl) (Below.refl _ _) ?_
        repeat (go_big_quiet_step (first | (go_at_call 21; exact Since.calls _ (HPort.out _))))
        refine wpQuiet_nil ?_
        intro _ hw'
        obtain ⟨nq, hw2⟩ := hw'
        subst hw2
        have HBq : Hid (Below W.heap.size W nq.w) := HBr.out.trans (nq.h.mono HBr.out.size)
        clear c0 c1 c2 c3 c4 c5 c6 c7 c8 c9 c10 hne d0 d1 d2
        obtain ⟨Wq, hWq⟩ : ∃ Wq, nq.w = Wq := ⟨_, rfl⟩
        rw [hWq] at HBq ⊢
        clear hWq
        go_wp2_with fail
        go_loopw [15] (fun i wx => ∃ s : Nat, s ≤ t ∧ i = .int .i64 s ∧ Below W.heap.size W wx) (fun i _ => t - (intOf i).toNat)
        case atStart => exact ⟨0, Nat.zero_le _, rfl, HBq.out⟩
        case round =>
          obtain ⟨s, hs, rfl, hBs⟩ := hrel
          have HBs : Hid (Below W.heap.size W wr) := hBs
          by_cases hst : s < t
          · have hsI : (s : Int) < (t : Int) := by omega
            have hskI : (s : Int) < (k : Int) := by omega
            have htkI : (t : Int) < (k : Int) := by omega
            have hsk : s < k := by omega
            obtain ⟨b', o', e1, cS⟩ := (HL6.out.below hBs).at hsk
            cases e1
            obtain ⟨b', o', e1, cT⟩ := (HL6.out.below hBs).at htk
            cases e1
            have hne := HJ.out s hst
            obtain ⟨y1, hy1⟩ : ∃ y, L.getD s 0 = y := ⟨_, rfl⟩
            obtain ⟨y2, hy2⟩ : ∃ y, L.getD t 0 = y := ⟨_, rfl⟩
            rw [hy1] at cS hne
            rw [hy2] at cT hne
            have hne' : (y1 == y2) = false := by simpa using hne
            clear hy1 hy2 hBs hne
            go_wp2_with fail
            go_region
            all_goals go_wp2_with fail
            all_goals go_roundw
            all_goals first | (simp [intOf]; omega) | exact ⟨s + 1, by omega, by go_num, HBs.out.drew⟩ | ((repeat apply Exists.intro); exact ⟨⟨s + 1, by omega, by go_num, HBs.out.drew⟩, rfl⟩)
          · obtain rfl : s = t := by omega
            clear hBs
            go_wp2_with fail
            go_roundw
            case rel => first | exact ⟨s + 1, by omega, by go_num, HBs.out⟩ | ((repeat apply Exists.intro); exact ⟨⟨s + 1, by omega, by go_num, HBs.out⟩, rfl⟩)
            case measure => simp [intOf]; omega
    · obtain rfl : t = k := by omega
      clear hBr
      go_wp2_with (go_at_call 13; refine (tknown_any S _).mono ?_; rintro e w8 ⟨rfl, hB8⟩; have HB8 : Hid (Below w.heap.size w w8) := later (later HB6.out HBr.out) hB8; clear hB8)
      go_ret
      exact ⟨rfl, HB8.out⟩
end Go.Proofs.Ytipdcpekepiphaa
