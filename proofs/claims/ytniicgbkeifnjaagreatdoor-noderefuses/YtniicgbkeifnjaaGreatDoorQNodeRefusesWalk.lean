/-
  The law NodeRefuses (package shunterlaw16), walked. Conditions: the table behind masks lies as its initialiser lays it.
-/
import Derived.Test.YtniicgbkeifnjaaGreatDoorQ44
import Derived.Test.YtniicgbkeifnjaaGreatDoorQ47
namespace Go.Proofs.YtniicgbkeifnjaaGreatDoor
open Go.ChangeShapes Go.WideShapes Go.ChangeAt Go.RowKit
set_option linter.unusedVariables false
set_option maxRecDepth 100000

namespace Nd
theorem nine_own (w : World) : Own (w.alloc (.cells #[.int .u8 9] 5)) w.heap.size (some ⟨w.heap.size, 0, none⟩) 1 1 [9] :=
  ⟨World.ownsRow_lit (base := w.heap.size) (size := 1) w #[.int .u8 9] 1 (Nat.le_refl _) (by unfold maxLen; omega) rfl, fun x hx => by simp at hx; omega, rfl⟩
set_option maxHeartbeats 8000000 in
set_option maxRecDepth 100000 in
theorem nodeRefuses_any (w : World) (hT : M.Tab w) {a : Option Addr} {n c : Nat} {l : List Nat} (ho : Octs w a n l) (room more v : Nat) (h1 : room < 256) (h2 : more < 256) (h3 : v < 256) (fm : Int) {ab : Option Addr} {nb cb : Nat} {lb : List Nat} (hob : Octs w ab nb lb) (seq : Nat) (hsq : seq < 65536) :
    Calls Tryz.prog 9 #[.slice a n c, .int .u8 (room : Nat), .int .u8 (more : Nat), .int .u8 (v : Nat), .int .i64 fm, .slice ab nb cb, .int .u16 (seq : Nat)] w fun e w' => e = .returned (.bool true) ∧ Below w.heap.size w w' := by
  have HT : Hid (M.Tab w) := hT
  have HO : Hid (Octs w a n l) := ho
  have HSq : Hid (seq < 65536) := hsq
  have hnb : nb ≤ maxLen := hob.2.1
  clear hT ho hsq hob
  have hll := Tree.ofL_len l
  have HOk : Hid (Tree.layOk (Tree.ofL l) = true) := Tree.ofL_lay l
  go_enter Tryz.func9, Tryz.ntmps9
  go_wp2_with fail
  refine (show Calls Tryz.prog 10 #[.slice a n c, .int .u8 (room : Nat), .int .u8 (more : Nat), .int .u16 0] w _ from plan_any HO.out room more 0 h1 h2 (by omega)).mono ?_
  rintro e w1 ⟨p, rfl, hTP, hB1⟩
  have hnd := hTP.nodes
  obtain ⟨N, hN⟩ : ∃ N, (Tree.ofL l).length + 1 = N := ⟨_, rfl⟩
  rw [hN] at hnd
  have hN2 : 2 ≤ N ∧ N ≤ 6 := by omega
  have HTP : Hid (TreePlan w1 l room more 0 p) := hTP
  have HB1 : Hid (Below w.heap.size w w1) := hB1
  obtain ⟨k, hk⟩ : ∃ k : Nat, (v : Int) % (N : Int) = k := ⟨v % N, by rw [Int.natCast_emod]⟩
  have hkN : k < N := by have := Int.emod_lt_of_pos (v : Int) (show (0 : Int) < (N : Int) by omega); omega
  obtain ⟨hS1, hS2, hS3⟩ := Tree.sides_is HOk.out (v := k) (by omega)
  obtain ⟨V, hV⟩ : ∃ V, V = w1.alloc p.obj := ⟨_, rfl⟩
  have HV : Hid (Bxd V w1.heap.size p ∧ Below w1.heap.size w1 V) := by rw [hV]; exact ⟨bxd_new _ _, fresh _ _⟩
  have HTV : Hid (TreePlan V l room more 0 p) := ⟨HTP.out.pln.below HV.out.2, HTP.out.may, HTP.out.good, HTP.out.nodes, HTP.out.start, HTP.out.nums⟩
  have HBV : Hid (Below w.heap.size w V) := later HB1.out HV.out.2
  obtain ⟨es, hes⟩ : ∃ es, Tree.edges (Tree.ofL l) = es := ⟨_, rfl⟩
  obtain ⟨C, hC⟩ : ∃ C, cfgOf p es (Plan.mkW more (Plan.mkL more)) (Tree.rows (Tree.ofL l)) k = C := ⟨_, rfl⟩
  have hNw : ∀ u, Below V.heap.size V u → Calls Tryz.prog 11 #[p.val, .int .i64 (k : Nat)] u fun e u' => ∃ q, e = .returned (.pointer (some ⟨q, 0, none⟩)) ∧ One V u' q C (st0 C 0) 0 := fun u hu => by
    have hTu : TreePlan u l room more 0 p := ⟨HTV.out.pln.below hu, HTV.out.may, HTV.out.good, HTV.out.nodes, HTV.out.start, HTV.out.nums⟩
    have h := one_new hTu (by omega) (v := k) (by rw [hnd]; omega)
    rw [hes, hC] at h
    exact h.mono fun e u' ⟨q, he, hO⟩ => ⟨q, he, hO.wider hu⟩
  rw [hes] at hS1 hS2 hS3
  obtain ⟨nn0, hk0⟩ := newok hTP.may hTP.good (v := k) (by rw [hnd]; omega) (by have := hTP.start; omega)
  have hr8 := hk0.room
  have hl8 := hk0.lanes
  have hb5 := hk0.bs1
  rw [hes] at hb5
  have hen := hTP.pln.pl.he
  rw [hes] at hen
  have hel := hen.1
  have heb := hTP.pln.pl.eb
  have HCf : Hid (C.v = k ∧ C.N = N ∧ p.lanes = (C.L : Int) ∧ p.room = (C.room : Int) ∧ 1 ≤ C.L ∧ C.L ≤ 3 ∧ C.room ≤ 8 ∧ C.bs = Plan.bes es (k : Nat) ∧ 1 < C.P) := by
    rw [← hC]
    refine ⟨rfl, ?_, ?_, ?_, ?_, ?_, ?_, rfl, ?_⟩
    · show p.nodes.toNat = N; omega
    · show p.lanes = ((p.lanes.toNat : Nat) : Int); omega
    · show p.room = ((p.room.toNat : Nat) : Int); omega
    · show 1 ≤ p.lanes.toNat; omega
    · show p.lanes.toNat ≤ 3; omega
    · show p.room.toNat ≤ 8; omega
    · show 1 < (Plan.bes es (k : Nat)).length + 1; omega
  have HS : Hid (Tree.lastE es (k : Nat) es.length ∈ C.bs ∧ (k : Int) ∉ C.bs ∧ (-1 : Int) ∉ C.bs ∧ ∀ z : Int, z < 0 → z ∉ C.bs) := by
    rw [HCf.out.2.2.2.2.2.2.2.1]
    exact ⟨hS2, fun h => (hS3 _ h).2 rfl, fun h => by have := (hS3 _ h).1; omega, fun z hz h => by have := (hS3 _ h).1; omega⟩
  have HPr : Hid (Pr V p.ea p.en es) := hen.below HV.out.2
  clear hC hk0 hr8 hl8 hS1 hS2 hS3 hb5 hen hN
  clear hTP hB1
  obtain ⟨nodes, lanes, room', queue, rounds, every, bag, start, ea, en, ec, wa, wn, wc', na, nn, nc⟩ := p
  simp only at hnd hel heb
  subst hnd
  obtain ⟨e1, e2, e3, e4, e5⟩ := HCf.out
  simp only at e3 e4
  subst e3 e4
  unfold PV.val at hNw
  simp only at hNw
  have HNw : Hid (∀ u, Below V.heap.size V u → Calls Tryz.prog 11 #[.agg #[.int .i64 (N : Nat), .slice ea en ec, .int .i64 (C.L : Nat), .int .i64 (C.room : Nat), .int .i64 queue, .int .i64 rounds, .int .i64 every, .int .i64 bag, .slice wa wn wc', .int .u16 start, .slice na nn nc], .int .i64 (k : Nat)] u fun e u' => ∃ q, e = .returned (.pointer (some ⟨q, 0, none⟩)) ∧ One V u' q C (st0 C 0) 0) := hNw
  clear hNw e1 e2 e5
  simp only [PV.obj] at hV
  simp only [PV.val]
  go_upto_region 2 with fail
  rw [← hV]
  clear hV
  have hN0 : (N : Int) ≠ 0 := by omega
  have hN0b : ((N : Int) == 0) = false := by simp; omega
  obtain ⟨x0, x1, x2, x3, x4, x5, x6, x7, x8, x9, x10⟩ := HV.out.1
  simp only at x0 x1 x2 x3 x4 x5 x6 x7 x8 x9 x10
  go_cut [16] (fun s wx => ∃ q, s = .pointer (some ⟨q, 0, none⟩) ∧ One V wx q C (st0 C 0) 0)
  case first =>
    go_region_with (go_at_call 11; refine Calls.mono (HNw.out _ (by first | exact Below.refl _ _ | exact Cr.drewN_below V 1)) ?_; rintro e w3 ⟨q, rfl, hOn⟩; have HO3 : Hid (One V w3 q C (st0 C 0) 0) := hOn; clear hOn)
    all_goals (go_wp2_with fail; go_meet; exact ⟨_, rfl, HO3.out⟩)
  case rest =>
    obtain ⟨q, rfl, hOn⟩ := hcut
    have HO3 : Hid (One V wc q C (st0 C 0) 0) := hOn
    have HT3 : Hid (M.Tab wc) := (HT.out.below HBV.out HT.out.lt).below hOn.base (by have := HT.out.lt; have := HBV.out.size; omega)
    clear hOn x0 x1 x2 x3 x4 x5 x6 x7 x8 x9 x10
    by_cases hnb1 : 100 < nb
    · go_wp2_with fail
      refine (known_any wc HT3.out).mono ?_
      rintro e w4 ⟨rfl, hB4⟩
      have HE : Hid (Below w.heap.size w w4) := later (later HBV.out HO3.out.base) hB4
      clear hB4
      go_wp2_with fail
      go_ret
      exact ⟨rfl, HE.out⟩
    · go_wp2_with fail
      refine (known_any wc HT3.out).mono ?_
      rintro e w4 ⟨rfl, hB4⟩
      have HO4 : Hid (One V w4 q C (st0 C 0) 0) := HO3.out.below hB4
      have HB4 : Hid (Below V.heap.size V w4) := HO4.out.base
      clear hB4
      go_wp2_with fail
      go_loopw [17, 18] (fun x i wr => ∃ j : Nat, j ≤ en ∧ x = .int .i64 (Tree.lastE es (k : Nat) j) ∧ i = .int .i64 j ∧ Below w4.heap.size w4 wr) (fun _ i _ => en - (intOf i).toNat)
      case atStart => exact ⟨0, Nat.zero_le _, rfl, rfl, Below.refl _ _⟩
      case round =>
        obtain ⟨j, hj, rfl, rfl, hB⟩ := hrel
        have HB : Hid (Below w4.heap.size w4 wr) := hB
        obtain ⟨x0, x1, x2, x3, x4, x5, x6, x7, x8, x9, x10⟩ := HV.out.1.below (later HB4.out hB)
        simp only at x0 x1 x2 x3 x4 x5 x6 x7 x8 x9 x10
        clear hB
        by_cases hje : j < en
        · obtain ⟨b, off, ha, hcA, hcB⟩ := (HPr.out.below (later HB4.out HB.out)).at hje
          subst ha
          obtain ⟨⟨A, B⟩, hy⟩ : ∃ y, es.getD j (0, 0) = y := ⟨_, rfl⟩
          rw [hy] at hcA hcB
          simp only at hcA hcB
          have HLs : Hid (Tree.lastE es (k : Nat) (j + 1) = if B = (k : Nat) then A else if A = (k : Nat) then B else Tree.lastE es (k : Nat) j) := by show _ = _; rw [Tree.lastE, hy]
          clear hy
          have hne := Since.any wr
          have c0 := fun m : Since wr => m.cell x0
          have c1 := fun m : Since wr => m.cell x1
          have cA := fun m : Since wr => m.cell hcA
          have cB := fun m : Since wr => m.cell hcB
          obtain ⟨bA, hbA⟩ : ∃ b : Bool, (A == (k : Int)) = b := ⟨_, rfl⟩
          obtain ⟨bB, hbB⟩ : ∃ b : Bool, (B == (k : Int)) = b := ⟨_, rfl⟩
          have HLb : Hid (Tree.lastE es (k : Nat) (j + 1) = if bB then A else if bA then B else Tree.lastE es (k : Nat) j) := by
            show _ = _
            rw [HLs.out, ← hbA, ← hbB]
            simp only [beq_iff_eq]
          clear HLs
          clear x2 x3 x4 x5 x6 x7 x8 x9 x10
          cases bA <;> cases bB
          all_goals (
            simp only [if_true, Bool.false_eq_true, if_false] at HLb
            go_wp2_with fail
            refine region_since (u := wr) (by kernel_rfl) (by kernel_rfl) (Below.refl _ _) ?_
            repeat (go_big_quiet_step (fail))
            refine wpQuiet_nil ?_
            intro _ hw'
            obtain ⟨nq, hw2⟩ := hw'
            subst hw2
            have q0 := c0 nq
            have q1 := c1 nq
            have qA := cA nq
            have qB := cB nq
            go_wp2_with fail
            refine region_since (u := wr) (by kernel_rfl) (by kernel_rfl) nq.h ?_
            clear q0 q1 qA qB
            repeat (go_big_quiet_step (fail))
            refine wpQuiet_nil ?_
            intro _ hw'
            obtain ⟨mq, hw2⟩ := hw'
            subst hw2
            have q0 := c0 mq
            have q1 := c1 mq
            have qA := cA mq
            have qB := cB mq
            go_wp2_with fail
            go_roundw
            case rel => exact ⟨j + 1, by omega, by rw [HLb.out], by go_num, later HB.out mq.h⟩
            case measure => simp [intOf]; omega)
        · obtain ⟨X, hX⟩ : ∃ X, Tree.lastE es (k : Nat) j = X := ⟨_, rfl⟩
          have HXi : Hid (X ∈ C.bs) := by
            have hjj : j = es.length := by omega
            rw [hjj] at hX
            show _ ∈ _
            rw [← hX]
            exact HS.out.1
          rw [hX]
          clear hX
          go_wp2_with fail
          clear x0 x1 x2 x3 x4 x5 x6 x7 x8 x9 x10
          refine (show Calls Tryz.prog 31 #[.agg #[.int .u8 2, .int .u8 2, .int .u16 (seq : Nat), .int .u8 0, .int .u8 0, .int .u32 0]] wr _ from refEnc_to (goodF seq) (good_fine HSq.out) 6 (good_len seq) wr).mono ?_
          rintro e w5 ⟨g, cap, rfl, hown, hB5⟩
          have HOw : Hid (Octs w5 (some ⟨g, 0, none⟩) 6 (goodF seq).enc) := hown.octs
          have HCp : Hid (6 ≤ cap ∧ cap ≤ 9223372036854775807) := own_cap hown
          have HG5 : Hid (OneG V w5 q C (st0 C 0) 0 g) := by
            obtain ⟨g', e', hg1, hg2, _⟩ := hown.shape.resolve_left (fun h => by cases h.1)
            cases e'
            exact (HO4.out.below HB.out).beside hB5 hg1 hg2
          have HVx : Hid (∀ u, Below V.heap.size V u → Bxd u w1.heap.size ⟨(N : Nat), (C.L : Nat), (C.room : Nat), queue, rounds, every, bag, start, ea, en, ec, wa, wn, wc', na, nn, nc⟩) := fun u hu => HV.out.1.below hu
          clear hown hB5
          have x0 := (HVx.out w5 HG5.out.one.base).c0
          simp only at x0
          go_wp2_with fail
          clear x0
          refine (take0_any' HG5.out.one (k : Int) HS.out.2.1 (some ⟨g, 0, none⟩) 6 cap).mono ?_
          rintro e w6 ⟨rfl, hB6⟩
          have HG6 : Hid (OneG V w6 q C (st0 C 0) 0 g) := HG5.out.below hB6
          have HOw6 : Hid (Octs w6 (some ⟨g, 0, none⟩) 6 (goodF seq).enc) := HOw.out.below hB6
          clear hB6
          go_wp2_with fail
          refine (take0_any' HG6.out.one (-1) HS.out.2.2.1 (some ⟨g, 0, none⟩) 6 cap).mono ?_
          rintro e w7 ⟨rfl, hB7⟩
          have HG7 : Hid (OneG V w7 q C (st0 C 0) 0 g) := HG6.out.below hB7
          have HOw7 : Hid (Octs w7 (some ⟨g, 0, none⟩) 6 (goodF seq).enc) := HOw6.out.below hB7
          have HN7 : Hid (Own (w7.alloc (.cells #[.int .u8 9] 5)) w7.heap.size (some ⟨w7.heap.size, 0, none⟩) 1 1 [9]) := nine_own w7
          have HF7 : Hid (Below w7.heap.size w7 (w7.alloc (.cells #[.int .u8 9] 5))) := fresh _ _
          clear hB7
          go_wp2_with (at_builtin; refine wpList_append_octs rfl _ _ rfl w7.heap.size (some ⟨w7.heap.size, 0, none⟩) 1 1 [9] rfl HN7.out (some ⟨g, 0, none⟩) 6 cap (goodF seq).enc rfl (HOw7.out.below HF7.out) (fun e => by cases e) (by omega) (by simp) ?_; intro a' cap' w8 hown8 hB8)
          have HO8 : Hid (Octs w8 a' 7 (9 :: (goodF seq).enc) ∧ 7 ≤ cap' ∧ cap' ≤ 9223372036854775807) := ⟨hown8.octs, own_cap hown8⟩
          have hB78 : Below w7.heap.size w7 w8 := HF7.out.trans hB8
          have HG8 : Hid (OneG V w8 q C (st0 C 0) 0 g) := HG7.out.below hB78
          have HOw8 : Hid (Octs w8 (some ⟨g, 0, none⟩) 6 (goodF seq).enc) := HOw7.out.below hB78
          have HNn : Hid (takeE C (st0 C 0) X (9 :: (goodF seq).enc) = 30 ∧ take C (st0 C 0) X (9 :: (goodF seq).enc) = st0 C 0) := take_none HXi.out (nine_none HSq.out)
          clear hown8 hB8 hB78
          go_wp2_with fail
          refine (og_take HG8.out (by omega) X HO8.out.1 HO8.out.2.1 HO8.out.2.2).mono ?_
          rintro e w9 ⟨rfl, h9, hk9⟩
          rw [HNn.out.1]
          rw [HNn.out.2] at h9
          have HG9 : Hid (OneG V w9 q C (st0 C 0) 3 g) := h9
          have HOw9 : Hid (Octs w9 (some ⟨g, 0, none⟩) 6 (goodF seq).enc) := hk9 _ _ HOw8.out
          clear h9 hk9
          go_wp2_with fail
          refine (og_take HG9.out (by omega) X HOw9.out HCp.out.1 HCp.out.2).mono ?_
          rintro e wt ⟨rfl, ht, _⟩
          obtain ⟨ht1, ht2⟩ := take_good (c := C) (s := st0 C 0) (u := X) HSq.out HXi.out
          rw [ht1]
          obtain ⟨T, hT⟩ : ∃ T, take C (st0 C 0) X (goodF seq).enc = T := ⟨_, rfl⟩
          rw [hT] at ht ht2
          have HOt : Hid (One V wt q C T 6) := ht.one
          obtain ⟨xs, hxs, hsd⟩ := one_sender HOt.out (i := 1) (l := 0) (Nat.le_refl _) HCf.out.2.2.2.2.2.2.2.2 (by have := HCf.out.2.2.2.2.1; omega)
          rw [ht2] at hxs
          have HSd : Hid (∀ m : Since wt, Calls Tryz.prog 27 #[.pointer (some ⟨q, 0, none⟩), .int .i64 1, .int .i64 0] m.w fun e u' => e = .returned (.pointer (some ⟨xs, 0, none⟩)) ∧ Below m.w.heap.size m.w u') := fun m => hsd m.w m.h
          have HUs : Hid (∀ m : Since wt, Calls Tryz.prog 29 #[.pointer (some ⟨xs, 0, none⟩)] m.w fun e u' => e = .returned (.int .i64 (C.room : Nat)) ∧ Below m.w.heap.size m.w u') := fun m => usable_bel (hxs.below m.h) _ (by show ((0 : Nat) : Int) + (C.room : Int) - ((0 : Nat) : Int) = _; omega)
          have HTk : Hid (fm < 0 → ∀ m : Since wt, Calls Tryz.prog 32 #[.pointer (some ⟨q, 0, none⟩), .int .i64 fm, .slice ab nb cb] m.w fun e u' => e = .returned (.int .u16 1) ∧ Below m.w.heap.size m.w u') := fun hf m => one_take0 HOt.out fm (HS.out.2.2.2 fm hf) ab nb cb m.w m.h
          have HEt : Hid (Below w.heap.size w wt) := later HBV.out HOt.out.base
          have hx := HVx.out wt HOt.out.base
          have hx2 := hx.c2
          have hx3 := hx.c3
          simp only at hx2 hx3
          have hne := Since.any wt
          have c2 := fun m : Since wt => m.cell hx2
          have c3 := fun m : Since wt => m.cell hx3
          clear ht ht1 ht2 hT hxs hsd hx hx2 hx3
          by_cases hL2 : 2 < C.L
          · rw [if_pos hL2]
            have hd : decide ((C.L : Int) < 3) = false := decide_eq_false (by omega)
            by_cases hf : 0 ≤ fm
            · go_wp2_with fail
              refine region_since (u := wt) (by kernel_rfl) (by kernel_rfl) (Below.refl _ _) ?_
              repeat (go_big_quiet_step (first | (go_at_call 27; with_reducible exact Since.calls _ (HSd.out _)) | (go_at_call 29; with_reducible exact Since.calls _ (HUs.out _))))
              refine wpQuiet_nil ?_
              intro _ hw'
              obtain ⟨nq, hw2⟩ := hw'
              subst hw2
              have HBq : Hid (Below w.heap.size w nq.w) := later HEt.out nq.h
              clear hne c2 c3
              go_wp2_with fail
              go_ret
              exact ⟨rfl, HBq.out⟩
            · have hf0 : fm < 0 := by omega
              have hff : decide (0 ≤ fm) = false := decide_eq_false hf
              go_wp2_with fail
              refine region_since (u := wt) (by kernel_rfl) (by kernel_rfl) (Below.refl _ _) ?_
              repeat (go_big_quiet_step (first | (go_at_call 27; with_reducible exact Since.calls _ (HSd.out _)) | (go_at_call 29; with_reducible exact Since.calls _ (HUs.out _)) | (go_at_call 32; with_reducible exact Since.calls _ (HTk.out hf0 _))))
              refine wpQuiet_nil ?_
              intro _ hw'
              obtain ⟨nq, hw2⟩ := hw'
              subst hw2
              have HBq : Hid (Below w.heap.size w nq.w) := later HEt.out nq.h
              clear hne c2 c3
              go_wp2_with fail
              go_ret
              exact ⟨rfl, HBq.out⟩
          · rw [if_neg hL2]
            have hd : decide ((C.L : Int) < 3) = true := decide_eq_true (by omega)
            by_cases hf : 0 ≤ fm
            · go_wp2_with fail
              refine region_since (u := wt) (by kernel_rfl) (by kernel_rfl) (Below.refl _ _) ?_
              repeat (go_big_quiet_step (first | (go_at_call 27; with_reducible exact Since.calls _ (HSd.out _)) | (go_at_call 29; with_reducible exact Since.calls _ (HUs.out _))))
              refine wpQuiet_nil ?_
              intro _ hw'
              obtain ⟨nq, hw2⟩ := hw'
              subst hw2
              have HBq : Hid (Below w.heap.size w nq.w) := later HEt.out nq.h
              clear hne c2 c3
              go_wp2_with fail
              go_ret
              exact ⟨rfl, HBq.out⟩
            · have hf0 : fm < 0 := by omega
              have hff : decide (0 ≤ fm) = false := decide_eq_false hf
              go_wp2_with fail
              refine region_since (u := wt) (by kernel_rfl) (by kernel_rfl) (Below.refl _ _) ?_
              repeat (go_big_quiet_step (first | (go_at_call 27; with_reducible exact Since.calls _ (HSd.out _)) | (go_at_call 29; with_reducible exact Since.calls _ (HUs.out _)) | (go_at_call 32; with_reducible exact Since.calls _ (HTk.out hf0 _))))
              refine wpQuiet_nil ?_
              intro _ hw'
              obtain ⟨nq, hw2⟩ := hw'
              subst hw2
              have HBq : Hid (Below w.heap.size w nq.w) := later HEt.out nq.h
              clear hne c2 c3
              go_wp2_with fail
              go_ret
              exact ⟨rfl, HBq.out⟩
end Nd
end Go.Proofs.YtniicgbkeifnjaaGreatDoor
