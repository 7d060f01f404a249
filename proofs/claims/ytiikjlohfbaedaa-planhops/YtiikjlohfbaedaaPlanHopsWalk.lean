/-
  The law PlanHops (package shunterlaw12), walked. Conditions: that package plan comes to what PlanSpec says.
-/
import Derived.Test.YtiikjlohfbaedaaPlanBesideWalk
namespace Go.Proofs.Ytiikjlohfbaedaa
open Go.ChangeShapes Go.WideShapes Go.ChangeAt Go.RowKit
set_option linter.unusedVariables false

namespace Plan
/-- is a hop from B to A among the first k? -/
def bk (H : List (Int × Int)) (A B : Int) (k : Nat) : Bool := (H.take k).any fun e => e.1 == B && e.2 == A
theorem bk_succ {H : List (Int × Int)} {k : Nat} (A B : Int) (h : k < H.length) : bk H A B (k + 1) = (bk H A B k || ((H.getD k (0, 0)).1 == B && (H.getD k (0, 0)).2 == A)) := by
  unfold bk
  rw [take_pair h, List.any_append]
  simp
theorem bk_all {H : List (Int × Int)} {A B : Int} (h : (B, A) ∈ H) : bk H A B H.length = true := by
  unfold bk
  rw [List.take_length, List.any_eq_true]
  exact ⟨(B, A), h, by simp⟩
theorem pair_mem {l : List (Int × Int)} {i : Nat} (h : i < l.length) : l.getD i (0, 0) ∈ l := by
  rw [List.getD_eq_getElem?_getD, List.getElem?_eq_getElem h]
  exact List.getElem_mem h
theorem lex_at {l : List (Int × Int)} (h : l.Pairwise Lex) {i j : Nat} (hij : i < j) (hj : j < l.length) : Lex (l.getD i (0, 0)) (l.getD j (0, 0)) := by
  have := List.pairwise_iff_getElem.1 h i j (by omega) hj hij
  rw [List.getD_eq_getElem?_getD, List.getElem?_eq_getElem (show i < l.length by omega), List.getD_eq_getElem?_getD, List.getElem?_eq_getElem hj]
  exact this
end Plan
set_option maxHeartbeats 16000000 in
set_option maxRecDepth 100000 in
theorem planHops_any (S : PlanSpec) (w : World) (z0 : Int) (w0 : (Lit.int .u8 z0).wf = true) (z1 : Int) (w1 : (Lit.int .u16 z1).wf = true) :
    Calls Try.prog 4 #[.int .u8 z0, .int .u16 z1] w fun e w' => e = .returned (.bool true) ∧ Below w.heap.size w w' := by
  have b0 := bounds_u8 w0
  have b1 := bounds_u16 w1
  obtain ⟨nodes, rfl⟩ := Int.eq_ofNat_of_zero_le b0.1
  obtain ⟨J, rfl⟩ := Int.eq_ofNat_of_zero_le b1.1
  have h0 : nodes < 256 := by omega
  have h1 : J < 65536 := by omega
  clear b0 b1 w0 w1
  go_enter Try.func4, Try.ntmps4
  go_wp2_with fail
  refine (make_any nodes 0 0 J h0 (by omega) (by omega) h1 (oct0 w)).mono ?_
  rintro e w1 ⟨p, rfl, hp, hPl, hB1, _⟩
  have HB1 : Hid (Below w.heap.size w w1) := hB1
  have hNn : p.nodes = (Plan.mkN nodes : Nat) := congrArg Plan.Num.nodes hp
  obtain ⟨hN1, hN2⟩ := Plan.mkN_b nodes
  generalize Plan.mkN nodes = N at hPl hNn hN1 hN2
  have hen := hPl.he.1
  have HP1 : Hid (Pl w1 p (Plan.full J N) (Plan.mkW 0 (Plan.mkL 0)) (List.replicate N N)) := hPl
  generalize Plan.mkW 0 (Plan.mkL 0) = ws at HP1
  generalize List.replicate N N = ns at HP1
  obtain ⟨H, hH⟩ : ∃ H, Plan.hops p.nodes (Plan.full J N) = H := ⟨_, rfl⟩
  have hH' := hH
  rw [hNn] at hH'
  have HLex : Hid (H.Pairwise Plan.Lex) := by rw [← hH']; exact Plan.hopsTo_lex _ _
  have HBk : Hid (∀ e ∈ H, (e.2, e.1) ∈ H ∧ e.2 ∈ Plan.bes (Plan.full J N) e.1 ∧ I64 e.1 ∧ I64 e.2) := fun e he => by
    have h2 := he
    rw [← hH'] at h2
    obtain ⟨k1, k2⟩ := Plan.hops_back hN2 h2
    obtain ⟨_, k3, k4, k5, k6, _⟩ := Plan.bes_in hN2 k2
    rw [hH'] at k1
    exact ⟨k1, k2, by unfold I64; omega, by unfold I64; omega⟩
  have hlen : H.length = 2 * p.en := by rw [← hH', ← hen]; exact Plan.hops_len J hN2
  have hen15 : p.en ≤ 15 := by rw [← hen]; exact Nat.le_trans (Plan.full_len J N) (Plan.tri_le hN2)
  generalize Plan.full J N = es at HP1 HBk hen hH
  have HH : Hid (Plan.hops p.nodes es = H) := hH
  obtain ⟨n, hn⟩ : ∃ n, H.length = n := ⟨_, rfl⟩
  have HN : Hid (H.length = n) := hn
  rw [hn] at hlen
  have HLn : Hid (n = 2 * p.en) := hlen
  have hn30 : n ≤ 30 := by omega
  have HX0 : Hid (Bxd (w1.alloc p.obj) w1.heap.size p) := bxd_new w1 p
  have HF0 : Hid (Below w1.heap.size w1 (w1.alloc p.obj)) := fresh _ _
  clear hp hPl hB1 hNn hen hH hH' hn hlen hN1 hN2
  unfold PV.val
  unfold PV.obj at HX0 HF0
  go_wp2_with (go_at_call 12; refine (PlanSpec.hops' S (p := p) (HP1.out.below HF0.out) H HH.out n HN.out).mono ?_; rintro e w2 ⟨a, cap, rfl, hz, hB2⟩; have HZ : Hid (Pr w2 a n H) := hz; have HB2 : Hid (Below w1.heap.size w1 w2) := later HF0.out hB2; have HX2 : Hid (Bxd w2 w1.heap.size p) := HX0.out.below hB2; have HP2 : Hid (Pl w2 p es ws ns) := (HP1.out.below HF0.out).below hB2; clear hz hB2)
  go_loopw [7, 8, 9] (fun i _ _ ws => ∃ j : Nat, j ≤ n ∧ i = .int .i64 j ∧ Below w2.heap.size w2 ws) (fun i _ _ _ => n - (intOf i).toNat)
  case atStart => exact ⟨0, Nat.zero_le _, rfl, Below.refl _ _⟩
  case round =>
    obtain ⟨j, hj, rfl, hBi⟩ := hrel
    have HBi : Hid (Below w2.heap.size w2 wr) := hBi
    have HZi : Hid (Pr wr a n H) := HZ.out.below hBi
    clear hBi
    by_cases hjn : j < n
    · have hjl : j < H.length := by have := HN.out; omega
      have hmem := Plan.pair_mem hjl
      obtain ⟨hbk1, hbk2, hi1, hi2⟩ := HBk.out _ hmem
      obtain ⟨b, off, ha, cA, cB⟩ := HZi.out.at hjn
      subst ha
      have hlex : ∀ i, i < j → Plan.Lex (H.getD i (0, 0)) (H.getD j (0, 0)) := fun i hi => Plan.lex_at HLex.out hi hjl
      obtain ⟨⟨A, B⟩, hy⟩ : ∃ y, H.getD j (0, 0) = y := ⟨_, rfl⟩
      rw [hy] at cA cB hbk1 hbk2 hi1 hi2 hlex
      simp only at cA cB hbk1 hbk2 hi1 hi2
      have HLx : Hid (∀ i, i < j → Plan.Lex (H.getD i (0, 0)) (A, B)) := hlex
      have HAll : Hid (Plan.bk H A B n = true) := by show _ = _; rw [← HN.out]; exact Plan.bk_all hbk1
      have HPt : Hid (1 ≤ Plan.port es A B) := Plan.port_pos hbk2
      have HHj : Hid (H.getD j (0, 0) = (A, B)) := hy
      clear hmem hbk1 hbk2 hlex hy
      have HXi : Hid (Bxd wr w1.heap.size p) := HX2.out.below HBi.out
      have HPi : Hid (Pl wr p es ws ns) := HP2.out.below HBi.out
      have hne := Since.any wr
      have c0 := fun m : Since wr => m.cell cA
      have c1 := fun m : Since wr => m.cell cB
      by_cases hj0 : 0 < j
      · obtain ⟨i, rfl⟩ : ∃ i, j = i + 1 := ⟨j - 1, by omega⟩
        obtain ⟨dA, dB⟩ := pr_cell HZi.out i (by omega)
        have hl := HLx.out i (by omega)
        obtain ⟨⟨C, D⟩, hy⟩ : ∃ y, H.getD i (0, 0) = y := ⟨_, rfl⟩
        rw [hy] at dA dB hl
        simp only at dA dB
        have e0 := fun m : Since wr => m.cell dA
        have e1 := fun m : Since wr => m.cell dB
        clear hy cA cB dA dB
        rcases hl with hl | ⟨hl1, hl2⟩
        · simp only at hl
          have k1 : decide (A < C) = false := decide_eq_false (by omega)
          have k2 : (A == C) = false := by simp; omega
          go_wp2_with fail
          refine region_since (u := wr) (by kernel_rfl) (by kernel_rfl) (Below.refl _ _) ?_
          repeat (go_big_quiet_step (fail))
          refine wpQuiet_nil ?_
          intro _ hw'
          obtain ⟨nq, hw2⟩ := hw'
          subst hw2
          clear e0 e1 k1 k2 hl
          obtain ⟨U, hU⟩ : ∃ U : World, U = nq.w := ⟨_, rfl⟩
          have HBU : Hid (Below w2.heap.size w2 U) := by rw [hU]; exact later HBi.out nq.h
          rw [← hU]
          clear hU hne c0 c1
          go_wp2_with fail
          go_loopw [8, 9] (fun bkv kv ww => ∃ k : Nat, k ≤ n ∧ bkv = .bool (Plan.bk H A B k) ∧ kv = .int .i64 k ∧ Below U.heap.size U ww) (fun _ kv _ => n - (intOf kv).toNat)
          case atStart => exact ⟨0, Nat.zero_le _, rfl, rfl, Below.refl _ _⟩
          case round =>
            obtain ⟨k, hk, rfl, rfl, hBk⟩ := hrel
            have HBk2 : Hid (Below U.heap.size U wr) := hBk
            have HZk : Hid (Pr wr (some ⟨b, off, none⟩) n H) := (HZ.out.below HBU.out).below hBk
            clear hBk
            have hne := Since.any wr
            obtain ⟨gA, gB⟩ := pr_cell HZk.out (i + 1) hjn
            rw [HHj.out] at gA gB
            simp only at gA gB
            have d0 := fun m : Since wr => m.cell gA
            have d1 := fun m : Since wr => m.cell gB
            clear gA gB
            by_cases hkn : k < n
            · have hkl : k < H.length := by have := HN.out; omega
              obtain ⟨fA, fB⟩ := pr_cell HZk.out k hkn
              have hsucc0 := Plan.bk_succ A B hkl
              obtain ⟨⟨C', D'⟩, hy⟩ : ∃ y, H.getD k (0, 0) = y := ⟨_, rfl⟩
              rw [hy] at fA fB hsucc0
              simp only at fA fB hsucc0
              have hsucc : Hid (Plan.bk H A B (k + 1) = (Plan.bk H A B k || (C' == B && D' == A))) := hsucc0
              have f0 := fun m : Since wr => m.cell fA
              have f1 := fun m : Since wr => m.cell fB
              clear fA fB hy hsucc0
              cases hb : Plan.bk H A B k with
              | true =>
                have Hb : Hid (Plan.bk H A B k = true) := hb
                clear hb
                go_wp2_with fail
                refine region_since (u := wr) (by kernel_rfl) (by kernel_rfl) (Below.refl _ _) ?_
                repeat (go_big_quiet_step (fail))
                refine wpQuiet_nil ?_
                intro _ hw'
                obtain ⟨nq, hw2⟩ := hw'
                subst hw2
                go_wp2_with fail
                go_roundw
                case rel =>
                  have R : Value.bool true = .bool (Plan.bk H A B (k + 1)) := by rw [hsucc.out, Hb.out]; rfl
                  have R2 : Below U.heap.size U nq.w := later HBk2.out nq.h
                  first | exact ⟨k + 1, by omega, R, by go_num, R2⟩ | ((repeat apply Exists.intro); exact ⟨⟨k + 1, by omega, R, by go_num, R2⟩, rfl⟩)
                case measure => simp [intOf]; omega
              | false =>
                have Hb : Hid (Plan.bk H A B k = false) := hb
                clear hb
                by_cases hCB : C' = B
                · have q1 : (C' == B) = true := by simpa using hCB
                  have Q1 : Hid ((C' == B) = true) := q1
                  clear hCB
                  by_cases hDA : D' = A
                  · have q2 : (D' == A) = true := by simpa using hDA
                    have Q2 : Hid ((D' == A) = true) := q2
                    clear hDA
                    go_wp2_with fail
                    refine region_since (u := wr) (by kernel_rfl) (by kernel_rfl) (Below.refl _ _) ?_
                    repeat (go_big_quiet_step (fail))
                    refine wpQuiet_nil ?_
                    intro _ hw'
                    obtain ⟨nq, hw2⟩ := hw'
                    subst hw2
                    go_wp2_with fail
                    go_roundw
                    case rel =>
                      have R : Value.bool true = .bool (Plan.bk H A B (k + 1)) := by rw [hsucc.out, Hb.out, Q1.out, Q2.out]; rfl
                      have R2 : Below U.heap.size U nq.w := later HBk2.out nq.h
                      first | exact ⟨k + 1, by omega, R, by go_num, R2⟩ | ((repeat apply Exists.intro); exact ⟨⟨k + 1, by omega, R, by go_num, R2⟩, rfl⟩)
                    case measure => simp [intOf]; omega
                  · have q2 : (D' == A) = false := by simpa using hDA
                    have Q2 : Hid ((D' == A) = false) := q2
                    clear hDA
                    go_wp2_with fail
                    refine region_since (u := wr) (by kernel_rfl) (by kernel_rfl) (Below.refl _ _) ?_
                    repeat (go_big_quiet_step (fail))
                    refine wpQuiet_nil ?_
                    intro _ hw'
                    obtain ⟨nq, hw2⟩ := hw'
                    subst hw2
                    go_wp2_with fail
                    go_roundw
                    case rel =>
                      have R : Value.bool false = .bool (Plan.bk H A B (k + 1)) := by rw [hsucc.out, Hb.out, Q1.out, Q2.out]; rfl
                      have R2 : Below U.heap.size U nq.w := later HBk2.out nq.h
                      first | exact ⟨k + 1, by omega, R, by go_num, R2⟩ | ((repeat apply Exists.intro); exact ⟨⟨k + 1, by omega, R, by go_num, R2⟩, rfl⟩)
                    case measure => simp [intOf]; omega
                · have q1 : (C' == B) = false := by simpa using hCB
                  have Q1 : Hid ((C' == B) = false) := q1
                  clear hCB
                  go_wp2_with fail
                  refine region_since (u := wr) (by kernel_rfl) (by kernel_rfl) (Below.refl _ _) ?_
                  repeat (go_big_quiet_step (fail))
                  refine wpQuiet_nil ?_
                  intro _ hw'
                  obtain ⟨nq, hw2⟩ := hw'
                  subst hw2
                  go_wp2_with fail
                  go_roundw
                  case rel =>
                    have R : Value.bool false = .bool (Plan.bk H A B (k + 1)) := by rw [hsucc.out, Hb.out, Q1.out]; rfl
                    have R2 : Below U.heap.size U nq.w := later HBk2.out nq.h
                    first | exact ⟨k + 1, by omega, R, by go_num, R2⟩ | ((repeat apply Exists.intro); exact ⟨⟨k + 1, by omega, R, by go_num, R2⟩, rfl⟩)
                  case measure => simp [intOf]; omega
            · obtain rfl : k = n := by omega
              rw [HAll.out]
              have HPs : Hid (∀ m : Since wr, Pl m.w p es ws ns) := fun m => ((HP2.out.below HBU.out).below HBk2.out).below m.h
              obtain ⟨x0, x1, x2, x3, x4, x5, x6, x7, x8, x9, x10⟩ := (HX2.out.below HBU.out).below HBk2.out
              have y0 := fun m : Since wr => m.cell x0
              have y1 := fun m : Since wr => m.cell x1
              have y2 := fun m : Since wr => m.cell x2
              have y3 := fun m : Since wr => m.cell x3
              have y4 := fun m : Since wr => m.cell x4
              have y5 := fun m : Since wr => m.cell x5
              have y6 := fun m : Since wr => m.cell x6
              have y7 := fun m : Since wr => m.cell x7
              have y8 := fun m : Since wr => m.cell x8
              have y9 := fun m : Since wr => m.cell x9
              have y10 := fun m : Since wr => m.cell x10
              have hport : decide (Plan.port es A B < 1) = false := decide_eq_false (by have := HPt.out; omega)
              clear x0 x1 x2 x3 x4 x5 x6 x7 x8 x9 x10
              go_wp2_with fail
              refine region_since (u := wr) (by kernel_rfl) (by kernel_rfl) (Below.refl _ _) ?_
              repeat (go_big_quiet_step (first | (go_at_call 13; exact Since.calls _ (S.port (HPs.out _) _ _ hi1 hi2))))
              refine wpQuiet_nil ?_
              intro _ hw'
              obtain ⟨nq, hw2⟩ := hw'
              subst hw2
              clear d0 d1 y0 y1 y2 y3 y4 y5 y6 y7 y8 y9 y10 hne
              go_wp2_with fail
              go_roundw
              case rel =>
                have R2 : Below w2.heap.size w2 nq.w := later (later HBU.out HBk2.out) nq.h
                first | exact ⟨(i + 1) + 1, by omega, by go_num, R2⟩ | ((repeat apply Exists.intro); exact ⟨⟨(i + 1) + 1, by omega, by go_num, R2⟩, rfl⟩)
              case measure => simp [intOf]; omega
        · simp only at hl1 hl2
          have k0 : decide (A < C) = false := decide_eq_false (by omega)
          have k1 : (A == C) = true := by simp; omega
          have k2 : decide (B ≤ D) = false := decide_eq_false (by omega)
          clear hl1 hl2
          go_wp2_with fail
          refine region_since (u := wr) (by kernel_rfl) (by kernel_rfl) (Below.refl _ _) ?_
          repeat (go_big_quiet_step (fail))
          refine wpQuiet_nil ?_
          intro _ hw'
          obtain ⟨nq, hw2⟩ := hw'
          subst hw2
          clear e0 e1 k0 k1 k2
          obtain ⟨U, hU⟩ : ∃ U : World, U = nq.w := ⟨_, rfl⟩
          have HBU : Hid (Below w2.heap.size w2 U) := by rw [hU]; exact later HBi.out nq.h
          rw [← hU]
          clear hU hne c0 c1
          go_wp2_with fail
          go_loopw [8, 9] (fun bkv kv ww => ∃ k : Nat, k ≤ n ∧ bkv = .bool (Plan.bk H A B k) ∧ kv = .int .i64 k ∧ Below U.heap.size U ww) (fun _ kv _ => n - (intOf kv).toNat)
          case atStart => exact ⟨0, Nat.zero_le _, rfl, rfl, Below.refl _ _⟩
          case round =>
            obtain ⟨k, hk, rfl, rfl, hBk⟩ := hrel
            have HBk2 : Hid (Below U.heap.size U wr) := hBk
            have HZk : Hid (Pr wr (some ⟨b, off, none⟩) n H) := (HZ.out.below HBU.out).below hBk
            clear hBk
            have hne := Since.any wr
            obtain ⟨gA, gB⟩ := pr_cell HZk.out (i + 1) hjn
            rw [HHj.out] at gA gB
            simp only at gA gB
            have d0 := fun m : Since wr => m.cell gA
            have d1 := fun m : Since wr => m.cell gB
            clear gA gB
            by_cases hkn : k < n
            · have hkl : k < H.length := by have := HN.out; omega
              obtain ⟨fA, fB⟩ := pr_cell HZk.out k hkn
              have hsucc0 := Plan.bk_succ A B hkl
              obtain ⟨⟨C', D'⟩, hy⟩ : ∃ y, H.getD k (0, 0) = y := ⟨_, rfl⟩
              rw [hy] at fA fB hsucc0
              simp only at fA fB hsucc0
              have hsucc : Hid (Plan.bk H A B (k + 1) = (Plan.bk H A B k || (C' == B && D' == A))) := hsucc0
              have f0 := fun m : Since wr => m.cell fA
              have f1 := fun m : Since wr => m.cell fB
              clear fA fB hy hsucc0
              cases hb : Plan.bk H A B k with
              | true =>
                have Hb : Hid (Plan.bk H A B k = true) := hb
                clear hb
                go_wp2_with fail
                refine region_since (u := wr) (by kernel_rfl) (by kernel_rfl) (Below.refl _ _) ?_
                repeat (go_big_quiet_step (fail))
                refine wpQuiet_nil ?_
                intro _ hw'
                obtain ⟨nq, hw2⟩ := hw'
                subst hw2
                go_wp2_with fail
                go_roundw
                case rel =>
                  have R : Value.bool true = .bool (Plan.bk H A B (k + 1)) := by rw [hsucc.out, Hb.out]; rfl
                  have R2 : Below U.heap.size U nq.w := later HBk2.out nq.h
                  first | exact ⟨k + 1, by omega, R, by go_num, R2⟩ | ((repeat apply Exists.intro); exact ⟨⟨k + 1, by omega, R, by go_num, R2⟩, rfl⟩)
                case measure => simp [intOf]; omega
              | false =>
                have Hb : Hid (Plan.bk H A B k = false) := hb
                clear hb
                by_cases hCB : C' = B
                · have q1 : (C' == B) = true := by simpa using hCB
                  have Q1 : Hid ((C' == B) = true) := q1
                  clear hCB
                  by_cases hDA : D' = A
                  · have q2 : (D' == A) = true := by simpa using hDA
                    have Q2 : Hid ((D' == A) = true) := q2
                    clear hDA
                    go_wp2_with fail
                    refine region_since (u := wr) (by kernel_rfl) (by kernel_rfl) (Below.refl _ _) ?_
                    repeat (go_big_quiet_step (fail))
                    refine wpQuiet_nil ?_
                    intro _ hw'
                    obtain ⟨nq, hw2⟩ := hw'
                    subst hw2
                    go_wp2_with fail
                    go_roundw
                    case rel =>
                      have R : Value.bool true = .bool (Plan.bk H A B (k + 1)) := by rw [hsucc.out, Hb.out, Q1.out, Q2.out]; rfl
                      have R2 : Below U.heap.size U nq.w := later HBk2.out nq.h
                      first | exact ⟨k + 1, by omega, R, by go_num, R2⟩ | ((repeat apply Exists.intro); exact ⟨⟨k + 1, by omega, R, by go_num, R2⟩, rfl⟩)
                    case measure => simp [intOf]; omega
                  · have q2 : (D' == A) = false := by simpa using hDA
                    have Q2 : Hid ((D' == A) = false) := q2
                    clear hDA
                    go_wp2_with fail
                    refine region_since (u := wr) (by kernel_rfl) (by kernel_rfl) (Below.refl _ _) ?_
                    repeat (go_big_quiet_step (fail))
                    refine wpQuiet_nil ?_
                    intro _ hw'
                    obtain ⟨nq, hw2⟩ := hw'
                    subst hw2
                    go_wp2_with fail
                    go_roundw
                    case rel =>
                      have R : Value.bool false = .bool (Plan.bk H A B (k + 1)) := by rw [hsucc.out, Hb.out, Q1.out, Q2.out]; rfl
                      have R2 : Below U.heap.size U nq.w := later HBk2.out nq.h
                      first | exact ⟨k + 1, by omega, R, by go_num, R2⟩ | ((repeat apply Exists.intro); exact ⟨⟨k + 1, by omega, R, by go_num, R2⟩, rfl⟩)
                    case measure => simp [intOf]; omega
                · have q1 : (C' == B) = false := by simpa using hCB
                  have Q1 : Hid ((C' == B) = false) := q1
                  clear hCB
                  go_wp2_with fail
                  refine region_since (u := wr) (by kernel_rfl) (by kernel_rfl) (Below.refl _ _) ?_
                  repeat (go_big_quiet_step (fail))
                  refine wpQuiet_nil ?_
                  intro _ hw'
                  obtain ⟨nq, hw2⟩ := hw'
                  subst hw2
                  go_wp2_with fail
                  go_roundw
                  case rel =>
                    have R : Value.bool false = .bool (Plan.bk H A B (k + 1)) := by rw [hsucc.out, Hb.out, Q1.out]; rfl
                    have R2 : Below U.heap.size U nq.w := later HBk2.out nq.h
                    first | exact ⟨k + 1, by omega, R, by go_num, R2⟩ | ((repeat apply Exists.intro); exact ⟨⟨k + 1, by omega, R, by go_num, R2⟩, rfl⟩)
                  case measure => simp [intOf]; omega
            · obtain rfl : k = n := by omega
              rw [HAll.out]
              have HPs : Hid (∀ m : Since wr, Pl m.w p es ws ns) := fun m => ((HP2.out.below HBU.out).below HBk2.out).below m.h
              obtain ⟨x0, x1, x2, x3, x4, x5, x6, x7, x8, x9, x10⟩ := (HX2.out.below HBU.out).below HBk2.out
              have y0 := fun m : Since wr => m.cell x0
              have y1 := fun m : Since wr => m.cell x1
              have y2 := fun m : Since wr => m.cell x2
              have y3 := fun m : Since wr => m.cell x3
              have y4 := fun m : Since wr => m.cell x4
              have y5 := fun m : Since wr => m.cell x5
              have y6 := fun m : Since wr => m.cell x6
              have y7 := fun m : Since wr => m.cell x7
              have y8 := fun m : Since wr => m.cell x8
              have y9 := fun m : Since wr => m.cell x9
              have y10 := fun m : Since wr => m.cell x10
              have hport : decide (Plan.port es A B < 1) = false := decide_eq_false (by have := HPt.out; omega)
              clear x0 x1 x2 x3 x4 x5 x6 x7 x8 x9 x10
              go_wp2_with fail
              refine region_since (u := wr) (by kernel_rfl) (by kernel_rfl) (Below.refl _ _) ?_
              repeat (go_big_quiet_step (first | (go_at_call 13; exact Since.calls _ (S.port (HPs.out _) _ _ hi1 hi2))))
              refine wpQuiet_nil ?_
              intro _ hw'
              obtain ⟨nq, hw2⟩ := hw'
              subst hw2
              clear d0 d1 y0 y1 y2 y3 y4 y5 y6 y7 y8 y9 y10 hne
              go_wp2_with fail
              go_roundw
              case rel =>
                have R2 : Below w2.heap.size w2 nq.w := later (later HBU.out HBk2.out) nq.h
                first | exact ⟨(i + 1) + 1, by omega, by go_num, R2⟩ | ((repeat apply Exists.intro); exact ⟨⟨(i + 1) + 1, by omega, by go_num, R2⟩, rfl⟩)
              case measure => simp [intOf]; omega
      · obtain rfl : j = 0 := by omega
        simp only [Nat.zero_mul, Nat.add_zero] at c0 c1
        clear cA cB
        go_wp2_with fail
        refine region_since (u := wr) (by kernel_rfl) (by kernel_rfl) (Below.refl _ _) ?_
        repeat (go_big_quiet_step (fail))
        refine wpQuiet_nil ?_
        intro _ hw'
        obtain ⟨nq, hw2⟩ := hw'
        subst hw2
        obtain ⟨U, hU⟩ : ∃ U : World, U = nq.w := ⟨_, rfl⟩
        have HBU : Hid (Below w2.heap.size w2 U) := by rw [hU]; exact later HBi.out nq.h
        rw [← hU]
        clear hU hne c0 c1
        go_wp2_with fail
        go_loopw [8, 9] (fun bkv kv ww => ∃ k : Nat, k ≤ n ∧ bkv = .bool (Plan.bk H A B k) ∧ kv = .int .i64 k ∧ Below U.heap.size U ww) (fun _ kv _ => n - (intOf kv).toNat)
        case atStart => exact ⟨0, Nat.zero_le _, rfl, rfl, Below.refl _ _⟩
        case round =>
          obtain ⟨k, hk, rfl, rfl, hBk⟩ := hrel
          have HBk2 : Hid (Below U.heap.size U wr) := hBk
          have HZk : Hid (Pr wr (some ⟨b, off, none⟩) n H) := (HZ.out.below HBU.out).below hBk
          clear hBk
          have hne := Since.any wr
          obtain ⟨gA, gB⟩ := pr_cell HZk.out 0 hjn
          rw [HHj.out] at gA gB
          simp only at gA gB
          simp only [Nat.zero_mul, Nat.add_zero] at gA gB
          have d0 := fun m : Since wr => m.cell gA
          have d1 := fun m : Since wr => m.cell gB
          clear gA gB
          by_cases hkn : k < n
          · have hkl : k < H.length := by have := HN.out; omega
            obtain ⟨fA, fB⟩ := pr_cell HZk.out k hkn
            have hsucc0 := Plan.bk_succ A B hkl
            obtain ⟨⟨C', D'⟩, hy⟩ : ∃ y, H.getD k (0, 0) = y := ⟨_, rfl⟩
            rw [hy] at fA fB hsucc0
            simp only at fA fB hsucc0
            have hsucc : Hid (Plan.bk H A B (k + 1) = (Plan.bk H A B k || (C' == B && D' == A))) := hsucc0
            have f0 := fun m : Since wr => m.cell fA
            have f1 := fun m : Since wr => m.cell fB
            clear fA fB hy hsucc0
            cases hb : Plan.bk H A B k with
            | true =>
              have Hb : Hid (Plan.bk H A B k = true) := hb
              clear hb
              go_wp2_with fail
              refine region_since (u := wr) (by kernel_rfl) (by kernel_rfl) (Below.refl _ _) ?_
              repeat (go_big_quiet_step (fail))
              refine wpQuiet_nil ?_
              intro _ hw'
              obtain ⟨nq, hw2⟩ := hw'
              subst hw2
              go_wp2_with fail
              go_roundw
              case rel =>
                have R : Value.bool true = .bool (Plan.bk H A B (k + 1)) := by rw [hsucc.out, Hb.out]; rfl
                have R2 : Below U.heap.size U nq.w := later HBk2.out nq.h
                first | exact ⟨k + 1, by omega, R, by go_num, R2⟩ | ((repeat apply Exists.intro); exact ⟨⟨k + 1, by omega, R, by go_num, R2⟩, rfl⟩)
              case measure => simp [intOf]; omega
            | false =>
              have Hb : Hid (Plan.bk H A B k = false) := hb
              clear hb
              by_cases hCB : C' = B
              · have q1 : (C' == B) = true := by simpa using hCB
                have Q1 : Hid ((C' == B) = true) := q1
                clear hCB
                by_cases hDA : D' = A
                · have q2 : (D' == A) = true := by simpa using hDA
                  have Q2 : Hid ((D' == A) = true) := q2
                  clear hDA
                  go_wp2_with fail
                  refine region_since (u := wr) (by kernel_rfl) (by kernel_rfl) (Below.refl _ _) ?_
                  repeat (go_big_quiet_step (fail))
                  refine wpQuiet_nil ?_
                  intro _ hw'
                  obtain ⟨nq, hw2⟩ := hw'
                  subst hw2
                  go_wp2_with fail
                  go_roundw
                  case rel =>
                    have R : Value.bool true = .bool (Plan.bk H A B (k + 1)) := by rw [hsucc.out, Hb.out, Q1.out, Q2.out]; rfl
                    have R2 : Below U.heap.size U nq.w := later HBk2.out nq.h
                    first | exact ⟨k + 1, by omega, R, by go_num, R2⟩ | ((repeat apply Exists.intro); exact ⟨⟨k + 1, by omega, R, by go_num, R2⟩, rfl⟩)
                  case measure => simp [intOf]; omega
                · have q2 : (D' == A) = false := by simpa using hDA
                  have Q2 : Hid ((D' == A) = false) := q2
                  clear hDA
                  go_wp2_with fail
                  refine region_since (u := wr) (by kernel_rfl) (by kernel_rfl) (Below.refl _ _) ?_
                  repeat (go_big_quiet_step (fail))
                  refine wpQuiet_nil ?_
                  intro _ hw'
                  obtain ⟨nq, hw2⟩ := hw'
                  subst hw2
                  go_wp2_with fail
                  go_roundw
                  case rel =>
                    have R : Value.bool false = .bool (Plan.bk H A B (k + 1)) := by rw [hsucc.out, Hb.out, Q1.out, Q2.out]; rfl
                    have R2 : Below U.heap.size U nq.w := later HBk2.out nq.h
                    first | exact ⟨k + 1, by omega, R, by go_num, R2⟩ | ((repeat apply Exists.intro); exact ⟨⟨k + 1, by omega, R, by go_num, R2⟩, rfl⟩)
                  case measure => simp [intOf]; omega
              · have q1 : (C' == B) = false := by simpa using hCB
                have Q1 : Hid ((C' == B) = false) := q1
                clear hCB
                go_wp2_with fail
                refine region_since (u := wr) (by kernel_rfl) (by kernel_rfl) (Below.refl _ _) ?_
                repeat (go_big_quiet_step (fail))
                refine wpQuiet_nil ?_
                intro _ hw'
                obtain ⟨nq, hw2⟩ := hw'
                subst hw2
                go_wp2_with fail
                go_roundw
                case rel =>
                  have R : Value.bool false = .bool (Plan.bk H A B (k + 1)) := by rw [hsucc.out, Hb.out, Q1.out]; rfl
                  have R2 : Below U.heap.size U nq.w := later HBk2.out nq.h
                  first | exact ⟨k + 1, by omega, R, by go_num, R2⟩ | ((repeat apply Exists.intro); exact ⟨⟨k + 1, by omega, R, by go_num, R2⟩, rfl⟩)
                case measure => simp [intOf]; omega
          · obtain rfl : k = n := by omega
            rw [HAll.out]
            have HPs : Hid (∀ m : Since wr, Pl m.w p es ws ns) := fun m => ((HP2.out.below HBU.out).below HBk2.out).below m.h
            obtain ⟨x0, x1, x2, x3, x4, x5, x6, x7, x8, x9, x10⟩ := (HX2.out.below HBU.out).below HBk2.out
            have y0 := fun m : Since wr => m.cell x0
            have y1 := fun m : Since wr => m.cell x1
            have y2 := fun m : Since wr => m.cell x2
            have y3 := fun m : Since wr => m.cell x3
            have y4 := fun m : Since wr => m.cell x4
            have y5 := fun m : Since wr => m.cell x5
            have y6 := fun m : Since wr => m.cell x6
            have y7 := fun m : Since wr => m.cell x7
            have y8 := fun m : Since wr => m.cell x8
            have y9 := fun m : Since wr => m.cell x9
            have y10 := fun m : Since wr => m.cell x10
            have hport : decide (Plan.port es A B < 1) = false := decide_eq_false (by have := HPt.out; omega)
            clear x0 x1 x2 x3 x4 x5 x6 x7 x8 x9 x10
            go_wp2_with fail
            refine region_since (u := wr) (by kernel_rfl) (by kernel_rfl) (Below.refl _ _) ?_
            repeat (go_big_quiet_step (first | (go_at_call 13; exact Since.calls _ (S.port (HPs.out _) _ _ hi1 hi2))))
            refine wpQuiet_nil ?_
            intro _ hw'
            obtain ⟨nq, hw2⟩ := hw'
            subst hw2
            clear d0 d1 y0 y1 y2 y3 y4 y5 y6 y7 y8 y9 y10 hne
            go_wp2_with fail
            go_roundw
            case rel =>
              have R2 : Below w2.heap.size w2 nq.w := later (later HBU.out HBk2.out) nq.h
              first | exact ⟨0 + 1, by omega, by go_num, R2⟩ | ((repeat apply Exists.intro); exact ⟨⟨0 + 1, by omega, by go_num, R2⟩, rfl⟩)
            case measure => simp [intOf]; omega
    · obtain rfl : j = n := by omega
      have hln := HLn.out
      subst hln
      have HXi : Hid (Bxd wr w1.heap.size p) := HX2.out.below HBi.out
      have HPi : Hid (Pl wr p es ws ns) := HP2.out.below HBi.out
      go_wp2_with (go_at_call 10; refine (known_any S _).mono ?_; rintro e w5 ⟨rfl, hB5⟩; have HB5 : Hid (Below w1.heap.size w1 w5) := later (later HB2.out HBi.out) hB5; obtain ⟨x0, x1, x2, x3, x4, x5, x6, x7, x8, x9, x10⟩ := HXi.out.below hB5; clear hB5)
      go_ret
      exact ⟨rfl, later HB1.out HB5.out⟩
end Go.Proofs.Ytiikjlohfbaedaa
