/-
  The law PlanBeside (package shunterlaw12), walked. Conditions: that package plan comes to what PlanSpec says.
-/
import Derived.Test.YtiikjlohfbaedaaPlanKnown
import Derived.Test.YtiikjlohfbaedaaPlanMake
import Derived.Test.YtiikjlohfbaedaaPlanSum
import Derived.Test.YtiikjlohfbaedaaSince2
namespace Go.Proofs.Ytiikjlohfbaedaa
open Go.ChangeShapes Go.WideShapes Go.ChangeAt Go.RowKit
set_option linter.unusedVariables false

theorem Zr.prev {w : World} {b off n k : Nat} {l : List Int} (h : Zr w (some ⟨b, off, none⟩) n l) (hk : k < n) : w.cell? ⟨b, off + k, none⟩ = some (.int .i64 (l.getD k 0)) := zr_cell h k hk
set_option maxHeartbeats 16000000 in
set_option maxRecDepth 100000 in
theorem planBeside_any (S : PlanSpec) (w : World) (z0 : Int) (w0 : (Lit.int .u8 z0).wf = true) (z1 : Int) (w1 : (Lit.int .u16 z1).wf = true) :
    Calls Try.prog 8 #[.int .u8 z0, .int .u16 z1] w fun e w' => e = .returned (.bool true) ∧ Below w.heap.size w w' := by
  have b0 := bounds_u8 w0
  have b1 := bounds_u16 w1
  obtain ⟨nodes, rfl⟩ := Int.eq_ofNat_of_zero_le b0.1
  obtain ⟨J, rfl⟩ := Int.eq_ofNat_of_zero_le b1.1
  have h0 : nodes < 256 := by omega
  have h1 : J < 65536 := by omega
  clear b0 b1 w0 w1
  go_enter Try.func8, Try.ntmps8
  go_wp2_with fail
  refine (make_any nodes 0 0 J h0 (by omega) (by omega) h1 (oct0 w)).mono ?_
  rintro e w1 ⟨p, rfl, hp, hPl, hB1, _⟩
  have HB1 : Hid (Below w.heap.size w w1) := hB1
  have hNn : p.nodes = (Plan.mkN nodes : Nat) := congrArg Plan.Num.nodes hp
  obtain ⟨hN1, hN2⟩ := Plan.mkN_b nodes
  generalize Plan.mkN nodes = N at hPl hNn hN1 hN2
  have hen := hPl.he.1
  have HP1 : Hid (Pl w1 p (Plan.full J N) (Plan.mkW 0 (Plan.mkL 0)) (List.replicate N N)) := hPl
  generalize Plan.mkW 0 (Plan.mkL 0) = ws at HP1
  generalize List.replicate N N = ns at HP1
  have HNn : Hid (p.nodes = (N : Nat)) := hNn
  have HIn : Hid (∀ v u : Int, u ∈ Plan.bes (Plan.full J N) v → u ≠ v ∧ 0 ≤ u ∧ u < N ∧ 0 ≤ v ∧ v < N ∧ v ∈ Plan.bes (Plan.full J N) u) := fun v u hu => Plan.bes_in hN2 hu
  have HSum : Hid (Plan.sumB (Plan.full J N) N = 2 * (Plan.full J N).length ∧ (Plan.hops (N : Int) (Plan.full J N)).length = 2 * (Plan.full J N).length ∧ (Plan.full J N).length ≤ 15) := ⟨Plan.sumB_full J hN2, Plan.hops_len J hN2, Nat.le_trans (Plan.full_len J N) (Plan.tri_le hN2)⟩
  generalize Plan.full J N = es at HP1 HIn HSum hen
  have HEn : Hid (es.length = p.en) := hen
  have HX0 : Hid (Bxd (w1.alloc p.obj) w1.heap.size p) := bxd_new w1 p
  have HF0 : Hid (Below w1.heap.size w1 (w1.alloc p.obj)) := fresh _ _
  have HSz : Hid ((w1.alloc p.obj).heap.size = w1.heap.size + 1) := World.size_alloc _ _
  clear hp hPl hB1 hNn hen
  unfold PV.val
  unfold PV.obj at HX0 HF0 HSz
  go_wp2_with fail
  generalize w1.alloc _ = W0 at HX0 HF0 HSz ⊢
  have HP0 : Hid (Pl W0 p es ws ns) := HP1.out.below HF0.out
  go_loopw [6, 7, 8, 9] (fun mm y _ _ wr => ∃ t : Nat, t ≤ N ∧ mm = .int .i64 (Plan.sumB es t : Nat) ∧ y = .int .i64 t ∧ Below W0.heap.size W0 wr) (fun _ y _ _ _ => N - (intOf y).toNat)
  case atStart => exact ⟨0, Nat.zero_le _, rfl, rfl, Below.refl _ _⟩
  case round =>
    obtain ⟨t, ht, rfl, rfl, hB⟩ := hrel
    have HB : Hid (Below W0.heap.size W0 wr) := hB
    have HX : Hid (Bxd wr w1.heap.size p) := HX0.out.below hB
    have HP : Hid (Pl wr p es ws ns) := HP0.out.below hB
    obtain ⟨x0, x1, x2, x3, x4, x5, x6, x7, x8, x9, x10⟩ := HX.out
    clear hB
    by_cases htN : t < N
    · obtain ⟨l, hl⟩ : ∃ l, Plan.bes es (t : Int) = l := ⟨_, rfl⟩
      have Hl : Hid (Plan.bes es (t : Int) = l) := hl
      obtain ⟨n, hn⟩ : ∃ n, l.length = n := ⟨_, rfl⟩
      have Hn : Hid (l.length = n) := hn
      obtain ⟨M, hM⟩ : ∃ M, Plan.sumB es t = M := ⟨_, rfl⟩
      have HM : Hid (Plan.sumB es (t + 1) = M + n) := by show _ = _; rw [Plan.sumB, hM, hl, hn]
      have hM30 : M + n ≤ 30 := by
        have h1 := Plan.sumB_mono es (show t + 1 ≤ N by omega)
        have h2 := HSum.out
        rw [HM.out] at h1
        omega
      rw [hM]
      clear hl hn hM
      have htp : (t : Int) < p.nodes := by rw [HNn.out]; omega
      have hit : I64 (t : Int) := by unfold I64; omega
      go_wp2_with (go_at_call 16; refine (PlanSpec.beside' S HP.out (t : Int) hit l Hl.out n Hn.out).mono ?_; rintro e w2 ⟨a, cap, rfl, hz, hB2⟩; have HZ : Hid (Zr w2 a n l) := hz; have HB2 : Hid (Below W0.heap.size W0 w2) := HB.out.trans (hB2.mono HB.out.size); have HX2 : Hid (Bxd w2 w1.heap.size p) := HX.out.below hB2; have HP2 : Hid (Pl w2 p es ws ns) := HP.out.below hB2; clear hz hB2)
      clear x0 x1 x2 x3 x4 x5 x6 x7 x8 x9 x10
      go_loopw [9] (fun i ws => ∃ j : Nat, j ≤ n ∧ i = .int .i64 j ∧ Below w2.heap.size w2 ws) (fun i _ => n - (intOf i).toNat)
      case atStart => exact ⟨0, Nat.zero_le _, rfl, Below.refl _ _⟩
      case round =>
        obtain ⟨j, hj, rfl, hBi⟩ := hrel
        have HBi : Hid (Below w2.heap.size w2 wr) := hBi
        have HZi : Hid (Zr wr a n l) := HZ.out.below hBi
        have HPs : Hid (∀ m : Since wr, Pl m.w p es ws ns) := fun m => (HP2.out.below hBi).below m.h
        obtain ⟨x0, x1, x2, x3, x4, x5, x6, x7, x8, x9, x10⟩ := HX2.out.below hBi
        clear hBi
        by_cases hjn : j < n
        · have hjl : j < l.length := by have := Hn.out; omega
          have hmem : l.getD j 0 ∈ Plan.bes es (t : Int) := by rw [Hl.out]; exact Plan.getD_mem hjl
          obtain ⟨hne0, hx1, hx2, _, _, hback⟩ := HIn.out _ _ hmem
          have hp1 : Plan.port es (t : Int) (l.getD j 0) = (j : Int) + 1 := by
            have := Plan.port_at (es := es) (v := (t : Int)) (i := j) (by rw [Hl.out]; exact hjl)
            rw [Hl.out] at this
            exact this
          have hp2 := Plan.port_pos hback
          have hasc : ∀ i, i < j → l.getD i 0 < l.getD j 0 := fun i hi => Plan.asc_at (by rw [← Hl.out]; exact Plan.bes_asc es _) hi hjl
          obtain ⟨b, off, ha, hcell⟩ := HZi.out.at hjn
          subst ha
          obtain ⟨x, hx⟩ : ∃ x, l.getD j 0 = x := ⟨_, rfl⟩
          rw [hx] at hcell hp1 hp2 hne0 hx1 hx2 hasc
          have hix : I64 x := by unfold I64; omega
          have hp2' : decide (Plan.port es x (t : Int) < 1) = false := decide_eq_false (by omega)
          have hne1 : (x == (t : Int)) = false := by simpa using hne0
          have hne := Since.any wr
          have c0 := fun m : Since wr => m.cell x0
          have c1 := fun m : Since wr => m.cell x1
          have c2 := fun m : Since wr => m.cell x2
          have c3 := fun m : Since wr => m.cell x3
          have c4 := fun m : Since wr => m.cell x4
          have c5 := fun m : Since wr => m.cell x5
          have c6 := fun m : Since wr => m.cell x6
          have c7 := fun m : Since wr => m.cell x7
          have c8 := fun m : Since wr => m.cell x8
          have c9 := fun m : Since wr => m.cell x9
          have c10 := fun m : Since wr => m.cell x10
          have cl := fun m : Since wr => m.cell hcell
          have HAs : Hid (∀ i, i < j → l.getD i 0 < x) := hasc
          clear hmem hback hx hne0 hp2 hasc hx1 hx2
          by_cases hj0 : 0 < j
          · obtain ⟨i, rfl⟩ : ∃ i, j = i + 1 := ⟨j - 1, by omega⟩
            have hprev := zr_cell HZi.out i (by omega)
            have hlt := HAs.out i (by omega)
            obtain ⟨y, hy⟩ : ∃ y, l.getD i 0 = y := ⟨_, rfl⟩
            rw [hy] at hprev hlt
            have hle : decide (x ≤ y) = false := decide_eq_false (by omega)
            have cp := fun m : Since wr => m.cell hprev
            clear hy hlt
            clear x0 x1 x2 x3 x4 x5 x6 x7 x8 x9 x10 hcell hprev
            go_wp2_with fail
            refine region_since (u := wr) (by kernel_rfl) (by kernel_rfl) (Below.refl _ _) ?_
            repeat (go_big_quiet_step (first | (go_at_call 13; exact Since.calls _ (S.port (HPs.out _) _ _ (by first | exact hit | exact hix) (by first | exact hix | exact hit)))))
            refine wpQuiet_nil ?_
            intro _ hw'
            obtain ⟨nq, hw2⟩ := hw'
            subst hw2
            have HBq : Hid (Below w2.heap.size w2 nq.w) := later HBi.out nq.h
            clear c0 c1 c2 c3 c4 c5 c6 c7 c8 c9 c10 hne cl cp
            go_wp2_with fail
            go_roundw
            case rel => first | exact ⟨i + 1 + 1, by omega, by go_num, HBq.out⟩ | ((repeat apply Exists.intro); exact ⟨⟨i + 1 + 1, by omega, by go_num, HBq.out⟩, rfl⟩)
            case measure => simp [intOf]; omega
          · obtain rfl : j = 0 := by omega
            simp only [Nat.add_zero] at cl
            have hp10 : Plan.port es (t : Int) x = 1 := by simpa using hp1
            clear hp1
            clear x0 x1 x2 x3 x4 x5 x6 x7 x8 x9 x10 hcell
            go_wp2_with fail
            refine region_since (u := wr) (by kernel_rfl) (by kernel_rfl) (Below.refl _ _) ?_
            repeat (go_big_quiet_step (first | (go_at_call 13; exact Since.calls _ (S.port (HPs.out _) _ _ (by first | exact hit | exact hix) (by first | exact hix | exact hit)))))
            refine wpQuiet_nil ?_
            intro _ hw'
            obtain ⟨nq, hw2⟩ := hw'
            subst hw2
            have HBq : Hid (Below w2.heap.size w2 nq.w) := later HBi.out nq.h
            clear c0 c1 c2 c3 c4 c5 c6 c7 c8 c9 c10 hne cl
            go_wp2_with fail
            go_roundw
            case rel => first | exact ⟨0 + 1, by omega, by go_num, HBq.out⟩ | ((repeat apply Exists.intro); exact ⟨⟨0 + 1, by omega, by go_num, HBq.out⟩, rfl⟩)
            case measure => simp [intOf]; omega
        · obtain rfl : j = n := by omega
          go_wp2_with fail
          go_roundw
          case rel =>
            have R1 := HB2.out.trans (HBi.out.mono HB2.out.size)
            have R2 : Value.int IntKind.i64 ((M : Int) + (j : Int)) = .int .i64 (Plan.sumB es (t + 1) : Nat) := by rw [HM.out]; simp
            first | exact ⟨t + 1, by omega, R2, by go_num, R1⟩ | ((repeat apply Exists.intro); exact ⟨⟨t + 1, by omega, R2, by go_num, R1⟩, rfl⟩)
          case measure => simp [intOf]; omega
    · obtain rfl : t = N := by omega
      have htp : ¬ (t : Int) < p.nodes := by rw [HNn.out]; omega
      obtain ⟨M, hM⟩ : ∃ M, Plan.sumB es t = M := ⟨_, rfl⟩
      have hS := HSum.out
      rw [hM, HEn.out] at hS
      obtain ⟨hS1, hS2, hS3⟩ := hS
      subst hS1
      have Hh : Hid ((Plan.hops p.nodes es).length = 2 * p.en) := by rw [HNn.out]; exact hS2
      have he15 : p.en ≤ 15 := hS3
      rw [hM]
      clear hM hS2 hS3
      go_wp2_with (first
        | (go_at_call 12; refine (PlanSpec.hops' S HP5.out _ rfl (2 * p.en) Hh.out).mono ?_; rintro e w6 ⟨a6, cap6, rfl, _, hB6⟩; have HB6 : Hid (Below w1.heap.size w1 w6) := later HB5.out hB6; clear hB6)
        | (go_at_call 10; refine (known_any S _).mono ?_; rintro e w5 ⟨rfl, hB5⟩; have HB5 : Hid (Below w1.heap.size w1 w5) := later (HF0.out.trans (HB.out.mono (by have := HSz.out; omega))) hB5; have HP5 : Hid (Pl w5 p es ws ns) := HP.out.below hB5; clear x0 x1 x2 x3 x4 x5 x6 x7 x8 x9 x10; obtain ⟨x0, x1, x2, x3, x4, x5, x6, x7, x8, x9, x10⟩ := HX.out.below hB5; clear hB5))
      go_ret
      exact ⟨rfl, later HB1.out HB6.out⟩
end Go.Proofs.Ytiikjlohfbaedaa
