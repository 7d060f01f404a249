/-
  The law HostDoes of package shunterlaw15, over numbers and a slice of calls that are handed in. Conditions: that package host comes to what HostSpec says, that the numbers are of their kinds, and the slice leads to calls.
-/
import Derived.Test.YtfldhjeeoaplfaaHostDuo
namespace Go.Proofs.Ytfldhjeeoaplfaa
open Go.ChangeShapes Go.WideShapes Go.ChangeAt Go.RowKit
set_option linter.unusedVariables false

theorem cell_below {w w' : World} {b o : Nat} {v : Value} (h : w.cell? ⟨b, o, none⟩ = some v) (k : Below w.heap.size w w') : w'.cell? ⟨b, o, none⟩ = some v := (k.cell (p := ⟨b, o, none⟩) (cell_lt h)).trans h
set_option maxRecDepth 100000 in
set_option maxHeartbeats 8000000 in
theorem hostDoes_walk {H : HostRel} (S : HostSpec H) (a0 a1 : Int) (h0 : Hst.Z64 a0) (h1 : Hst.Z64 a1) (a : Option Addr) (len cap : Nat) (os : List OpV) (w : World) (ho : Ops w a len os) :
    Calls Try.prog 5 #[.int .i64 a0, .int .i64 a1, .slice a len cap] w fun e w' => e = .returned (.bool true) ∧ Below w.heap.size w w' := by
  have HO : Hid (Ops w a len os) := ho
  have hl1 := ho.2.1
  clear ho
  by_cases hb : 100 < len
  · go_enter Try.func5, Try.ntmps5
    go_wp2_with fail
    refine (hknown_any S _).mono ?_
    rintro e u1 ⟨rfl, b1⟩
    go_wp2_with fail
    go_ret
    exact ⟨rfl, b1⟩
  · have hb2 : ¬ (100 : Int) < len := by omega
    by_cases hg : (1 ≤ a0 ∧ a0 ≤ 3) ∧ 1 ≤ a1 ∧ a1 ≤ 8
    · obtain ⟨n, rfl⟩ := Int.eq_ofNat_of_zero_le (a := a0) (by omega)
      obtain ⟨q, rfl⟩ := Int.eq_ofNat_of_zero_le (a := a1) (by omega)
      have HN : Hid ((1 ≤ n ∧ n ≤ 3) ∧ 1 ≤ q ∧ q ≤ 8) := by show _ ∧ _; omega
      clear h0 h1 hg
      go_enter Try.func5, Try.ntmps5
      go_wp2_with fail
      refine (hknown_any S _).mono ?_
      rintro e u0 ⟨rfl, b0⟩
      go_wp2_with fail
      refine (o_new S (w0 := w) (Z := fun _ => False) n q HN.out.1 HN.out.2 b0 hnone).mono ?_
      rintro e u1 ⟨p, rfl, m1, _⟩
      have H1 : Hid (Own1 H (fun _ => False) w u1 p n q [] []) := m1
      clear m1 b0
      go_wp2_with fail
      refine (d_new S n q HN.out.1 HN.out.2 H1.out hnone).mono ?_
      rintro e u2 ⟨r, rfl, m2⟩
      have H2 : Hid (Duo H (fun _ => False) w u2 p r n q [] [] [] []) := m2
      clear m2 H1
      go_wp2_with fail
      go_loopw [9, 10, 11, 12, 13, 14, 15, 16] (fun x _ _ _ _ _ _ _ wr => ∃ (k : Nat) (L G : List Pk), k ≤ len ∧ x = .int .i64 k ∧ G.length ≤ k ∧ Duo H (fun _ => False) w wr p r n q L G L G) (fun x _ _ _ _ _ _ _ _ => len - (intOf x).toNat)
      case atStart => exact ⟨0, [], [], Nat.zero_le _, rfl, Nat.le_refl _, H2.out⟩
      case round =>
        obtain ⟨k, L, G, hk, rfl, hGk, hm⟩ := hrel
        have HM : Hid (Duo H (fun _ => False) w wr p r n q L G L G) := hm
        have HGk : Hid (G.length ≤ k ∧ k ≤ 100) := by show _ ∧ _; omega
        clear hm hGk H2
        by_cases hkl : k < len
        · obtain ⟨b, off, v, rfl, hat⟩ := HO.out.at hkl
          obtain ⟨⟨q1, ⟨q2, q3, q4, q5⟩, q6, q7⟩, hok⟩ := hat.below HM.out.below
          obtain ⟨vk, ⟨vs, vd, vz, vb⟩, vl, vn⟩ := v
          simp only at q1 q2 q3 q4 q5 q6 q7
          have HK : Hid (OpV.ok ⟨vk, ⟨vs, vd, vz, vb⟩, vl, vn⟩) := hok
          have hvk : vk < 256 := hok.1
          clear hat hok
          have hkl2 : (k : Int) < len := by omega
          go_wp2_with fail
          refine (near_any vk ⟨vs, vd, vz, vb⟩ vl vn HK.out.2.1 HK.out.2.2 _).mono ?_
          rintro e u3 ⟨rfl, b3⟩
          obtain ⟨l', hl'⟩ : ∃ l', nv vn 3 vl = l' := ⟨_, rfl⟩
          obtain ⟨z', hz'⟩ : ∃ z', nv vn 3 vz = z' := ⟨_, rfl⟩
          have HV : Hid (Hst.Z64 l' ∧ Hst.Z64 z') := ⟨by rw [← hl']; exact nv_z64 (by omega) (by omega) HK.out.2.2, by rw [← hz']; exact nv_z64 (by omega) (by omega) HK.out.2.1⟩
          simp only [hl', hz']
          have HD : Hid (Duo H (fun j => j = u3.heap.size) w (u3.alloc (.cells #[.int .u8 vk, .int .i64 vs, .int .i64 vd, .int .i64 z', .int .u32 vb, .int .i64 l', .bool vn] 42)) p r n q L G L G) := ((HM.out.on S b3).wider S (Z' := fun j => j = u3.heap.size) (fun j e => .inr (by omega))).on S (fresh _ _)
          have HI : Hid (OpIn (u3.alloc (.cells #[.int .u8 vk, .int .i64 vs, .int .i64 vd, .int .i64 z', .int .u32 vb, .int .i64 l', .bool vn] 42)) u3.heap.size ⟨vk, ⟨vs, vd, z', vb⟩, l', vn⟩) := OpIn.new u3 ⟨vk, ⟨vs, vd, z', vb⟩, l', vn⟩
          clear b3 hl' hz' q1 q2 q3 q4 q5 q6 q7 HM HK
          try dsimp only
          go_upto_region 11 with fail
          generalize u3.alloc _ = W at HD HI ⊢
          obtain ⟨bx, hbx⟩ : ∃ bx, u3.heap.size = bx := ⟨_, rfl⟩
          rw [hbx] at HD HI ⊢
          clear hbx
          obtain ⟨q0, q1, q2, q3, q4, q5⟩ := HI.out.all
          simp only at q0 q1 q2 q3 q4 q5
          have HZ : Hid (∀ j, j = bx → j < W.heap.size) := fun j e => by rw [e]; exact cell_lt q0
          obtain ⟨K, hK⟩ : ∃ K : Nat, (vk : Int) % 5 = K := ⟨vk % 5, by omega⟩
          have hKc : K = 3 ∨ K = 4 ∨ (¬ (K : Int) = 3 ∧ ¬ (K : Int) = 4) := by omega
          rcases hKc with rfl | rfl | ⟨hK3, hK4⟩
          · obtain ⟨x, hx⟩ : ∃ x, Hst.hdk (Hst.lane L l') = x := ⟨_, rfl⟩
            obtain ⟨b, hb⟩ : ∃ b, (!(Hst.lane L l').isEmpty) = b := ⟨_, rfl⟩
            obtain ⟨L', hL'⟩ : ∃ L', Hst.drop1 L l' = L' := ⟨_, rfl⟩
            have HX : Hid (Hst.hdk (Hst.lane L l') = x ∧ (!(Hst.lane L l').isEmpty) = b ∧ Hst.drop1 L l' = L') := ⟨hx, hb, hL'⟩
            clear hx hb hL'
            obtain ⟨xs, xd, xl, xb⟩ := x
            go_wp2_with fail
            refine (d_next S HD.out HZ.out l' HV.out.1 HX.out.1 HX.out.2.1 HX.out.2.2).mono ?_
            rintro e u4 ⟨rfl, m4, s4⟩
            have I4 : Hid (OpIn (u4.alloc (.cells #[.int .i64 xs, .int .i64 xd, .int .i64 xl, .int .u32 xb] 27)) bx ⟨vk, ⟨vs, vd, z', vb⟩, l', vn⟩) := (HI.out.sans s4 (fun e => e rfl)).below (fresh _ _)
            have H4 : Hid (Duo H (fun j => j = bx ∨ j = u4.heap.size) w (u4.alloc (.cells #[.int .i64 xs, .int .i64 xd, .int .i64 xl, .int .u32 xb] 27)) p r n q L' G L G) := (m4.wider S (Z' := fun j => j = bx ∨ j = u4.heap.size) (fun j e => e.imp id (fun e => by omega))).on S (fresh _ _)
            have P4 : Hid (PkAt (u4.alloc (.cells #[.int .i64 xs, .int .i64 xd, .int .i64 xl, .int .u32 xb] 27)) u4.heap.size 0 ⟨xs, xd, xl, xb⟩) := PkAt.new u4 ⟨xs, xd, xl, xb⟩
            clear m4 s4 HD HI q0 q1 q2 q3 q4 q5 HZ
            try dsimp only
            go_upto_region 16 with fail
            generalize u4.alloc _ = v4 at I4 H4 P4 ⊢
            obtain ⟨g4, hg4⟩ : ∃ g, u4.heap.size = g := ⟨_, rfl⟩
            rw [hg4] at H4 P4 ⊢
            clear hg4
            obtain ⟨q0, q1, q2, q3, q4, q5⟩ := I4.out.all
            simp only at q0 q1 q2 q3 q4 q5
            have HZ4 : Hid (∀ j, j = bx ∨ j = g4 → j < v4.heap.size) := fun j e => by
              rcases e with e | e
              · rw [e]; exact cell_lt q0
              · rw [e]; exact P4.out.lt
            go_wp2_with fail
            refine (d_rnext S H4.out HZ4.out l' HX.out.1 HX.out.2.1 HX.out.2.2).mono ?_
            rintro e u5 ⟨rfl, m5, s5⟩
            have P5 : Hid (PkAt (u5.alloc (.cells #[.int .i64 xs, .int .i64 xd, .int .i64 xl, .int .u32 xb] 27)) u5.heap.size 0 ⟨xs, xd, xl, xb⟩ ∧ PkAt (u5.alloc (.cells #[.int .i64 xs, .int .i64 xd, .int .i64 xl, .int .u32 xb] 27)) g4 0 ⟨xs, xd, xl, xb⟩) := ⟨PkAt.new u5 ⟨xs, xd, xl, xb⟩, (P4.out.sans s5 (fun e => e (.inr rfl))).below (fresh _ _)⟩
            have H5 : Hid (Duo H (fun _ => False) w (u5.alloc (.cells #[.int .i64 xs, .int .i64 xd, .int .i64 xl, .int .u32 xb] 27)) p r n q L' G L' G) := (m5.wider S (fun j e => e.elim)).on S (fresh _ _)
            clear m5 s5 H4 I4 P4 q0 q1 q2 q3 q4 q5 HZ4
            try dsimp only
            go_upto_region 17 with fail
            generalize u5.alloc _ = u6 at H5 P5 ⊢
            obtain ⟨g5, hg5⟩ : ∃ g, u5.heap.size = g := ⟨_, rfl⟩
            rw [hg5] at P5 ⊢
            clear hg5
            obtain ⟨⟨t1, t2, t3, t4⟩, t5, t6, t7, t8⟩ := P5.out
            simp only at t1 t2 t3 t4 t5 t6 t7 t8
            have HL : Hid (G.length ≤ k + 1) := by have := HGk.out; show _ ≤ _; omega

            obtain ⟨m, hm⟩ : ∃ m, G.length = m := ⟨_, rfl⟩
            obtain ⟨gb, gc, hc3, hpk⟩ := H5.out.came (by have := HL.out; have := HGk.out; omega) hm
            have HP : Hid (Pks u6 gb m G ∧ u6.cell? ⟨r, 3, none⟩ = some (.slice gb m gc) ∧ G.length = m ∧ m ≤ 101) := ⟨hpk, hc3, hm, by have := HL.out; have := HGk.out; omega⟩
            clear hpk hm
            go_wp2_with fail
            go_region_held3 (fun w' => w'.cell? ⟨r, 3, none⟩ = some (.slice gb m gc)) (first | exact C8.out | exact C7.out | exact cell_below HP.out.2.1 (pk_drewN_below u6 1))
              (first | (go_at_call 12; refine (d_got S (H5.out.on S (pk_drewN_below u6 1)) (by have := HP.out.2.2; omega) HP.out.2.2.1).mono ?_; rintro e u7 ⟨ga, ca, rfl, pk7, m7, b7⟩; have B7 : Hid (Below u6.heap.size u6 u7) := later (pk_drewN_below u6 1) b7; have C7 : Hid (u7.cell? ⟨r, 3, none⟩ = some (.slice gb m gc)) := cell_below HP.out.2.1 B7.out; have H7 : Hid (Pks u7 ga m G ∧ Pks u7 gb m G ∧ Duo H (fun _ => False) w u7 p r n q L' G L' G) := ⟨pk7, HP.out.1.below B7.out, m7⟩; clear pk7 m7 b7) | (go_at_call 20; refine (psame_leads u7 ga gb m ca gc G H7.out.1 H7.out.2.1 (by have := HP.out.2.2; omega)).mono ?_; rintro e u8 ⟨rfl, b8⟩; have C8 : Hid (u8.cell? ⟨r, 3, none⟩ = some (.slice gb m gc)) := cell_below C7.out b8; have H8 : Hid (Duo H (fun _ => False) w u8 p r n q L' G L' G) := H7.out.2.2.on S b8; clear b8))
            clear H5
            go_wp2_with fail
            go_loopw [16] (fun x wq => ∃ j : Nat, j ≤ 3 ∧ x = .int .i64 j ∧ Duo H (fun _ => False) w wq p r n q L' G L' G) (fun x _ => 3 - (intOf x).toNat)
            case atStart => exact ⟨0, by omega, rfl, H8.out⟩
            case round =>
              obtain ⟨j, hj, rfl, hm⟩ := hrel
              have HJ : Hid (Duo H (fun _ => False) w wr p r n q L' G L' G) := hm
              clear hm H8
              by_cases hj3 : j < 3
              · have hj3' : (j : Int) < 3 := by omega
                by_cases hjn : j < n
                · have hjn' : (j : Int) < (n : Int) := by omega
                  obtain ⟨c, hc⟩ : ∃ c, (Hst.lane L' (j : Int)).length = c := ⟨_, rfl⟩
                  have HC : Hid ((Hst.lane L' (j : Int)).length = c) := hc
                  clear hc
                  go_wp2_with fail
                  refine (d_waits S HJ.out (j : Int) (z64_small (by omega)) HC.out).mono ?_
                  rintro e u9 ⟨rfl, m9⟩
                  have H9 : Hid (Duo H (fun _ => False) w u9 p r n q L' G L' G) := m9
                  clear m9 HJ
                  go_wp2_with fail
                  refine (d_rwaits H9.out (j : Int) HC.out).mono ?_
                  rintro e u10 ⟨rfl, rfl⟩
                  go_wp2_with fail
                  go_roundw
                  case rel => first | exact ⟨j + 1, by omega, by go_num, H9.out⟩ | ((repeat apply Exists.intro); exact ⟨⟨j + 1, by omega, by go_num, H9.out⟩, rfl⟩)
                  case measure => simp [intOf]; omega
                · have hjn' : ¬ (j : Int) < (n : Int) := by omega
                  have hjn2 : (n : Int) ≤ (j : Int) := by omega
                  have HC : Hid ((Hst.lane L' (j : Int)).length = 0) := by show _ = _; rw [(HJ.out.fit S).out (.inr hjn2)]; rfl
                  go_wp2_with fail
                  refine (d_waits S HJ.out (j : Int) (z64_small (by omega)) HC.out).mono ?_
                  rintro e u9 ⟨rfl, m9⟩
                  have H9 : Hid (Duo H (fun _ => False) w u9 p r n q L' G L' G) := m9
                  clear m9 HJ
                  go_wp2_with fail
                  go_roundw
                  case rel => first | exact ⟨j + 1, by omega, by go_num, H9.out⟩ | ((repeat apply Exists.intro); exact ⟨⟨j + 1, by omega, by go_num, H9.out⟩, rfl⟩)
                  case measure => simp [intOf]; omega
              · obtain rfl : j = 3 := by omega
                go_wp2_with fail
                go_roundw
                case rel => first | exact ⟨k + 1, L', G, by omega, by go_num, HL.out, HJ.out⟩ | ((repeat apply Exists.intro); exact ⟨⟨k + 1, L', G, by omega, by go_num, HL.out, HJ.out⟩, rfl⟩)
                case measure => simp [intOf]; omega
          · go_wp2_with fail
            refine (d_eject S HD.out HZ.out ⟨vs, vd, z', vb⟩ (by have := HGk.out; omega)).mono ?_
            rintro e u4 ⟨rfl, m4, s4⟩
            have I4 : Hid (OpIn u4 bx ⟨vk, ⟨vs, vd, z', vb⟩, l', vn⟩) := HI.out.sans s4 (fun e => e rfl)
            have H4 : Hid (Duo H (fun j => j = bx) w u4 p r n q L (G ++ [⟨vs, vd, z', vb⟩]) L G) := m4
            clear m4 s4 HD HI q0 q1 q2 q3 q4 q5 HZ
            obtain ⟨q0, q1, q2, q3, q4, q5⟩ := I4.out.all
            simp only at q0 q1 q2 q3 q4 q5
            have HZ4 : Hid (∀ j, j = bx → j < u4.heap.size) := fun j e => by rw [e]; exact cell_lt q0
            go_wp2_with fail
            refine (d_reject S H4.out HZ4.out ⟨vs, vd, z', vb⟩ (by have := HGk.out; omega)).mono ?_
            rintro e u6 ⟨rfl, m5, s5⟩
            have HL : Hid ((G ++ [(⟨vs, vd, z', vb⟩ : Pk)]).length ≤ k + 1) := by have := HGk.out; show _ ≤ _; rw [List.length_append]; simp; omega
            obtain ⟨L', hL'⟩ : ∃ L', L = L' := ⟨_, rfl⟩
            obtain ⟨G2, hG2⟩ : ∃ G2, G ++ [(⟨vs, vd, z', vb⟩ : Pk)] = G2 := ⟨_, rfl⟩
            rw [hG2] at m5 HL
            rw [hL'] at m5
            have H5 : Hid (Duo H (fun _ => False) w u6 p r n q L' G2 L' G2) := m5.wider S (fun j e => e.elim)
            clear m5 s5 H4 I4 q0 q1 q2 q3 q4 q5 HZ4 hL' hG2

            obtain ⟨m, hm⟩ : ∃ m, G2.length = m := ⟨_, rfl⟩
            obtain ⟨gb, gc, hc3, hpk⟩ := H5.out.came (by have := HL.out; have := HGk.out; omega) hm
            have HP : Hid (Pks u6 gb m G2 ∧ u6.cell? ⟨r, 3, none⟩ = some (.slice gb m gc) ∧ G2.length = m ∧ m ≤ 101) := ⟨hpk, hc3, hm, by have := HL.out; have := HGk.out; omega⟩
            clear hpk hm
            go_wp2_with fail
            go_region_held3 (fun w' => w'.cell? ⟨r, 3, none⟩ = some (.slice gb m gc)) (first | exact C8.out | exact C7.out | exact cell_below HP.out.2.1 (pk_drewN_below u6 1))
              (first | (go_at_call 12; refine (d_got S (H5.out.on S (pk_drewN_below u6 1)) (by have := HP.out.2.2; omega) HP.out.2.2.1).mono ?_; rintro e u7 ⟨ga, ca, rfl, pk7, m7, b7⟩; have B7 : Hid (Below u6.heap.size u6 u7) := later (pk_drewN_below u6 1) b7; have C7 : Hid (u7.cell? ⟨r, 3, none⟩ = some (.slice gb m gc)) := cell_below HP.out.2.1 B7.out; have H7 : Hid (Pks u7 ga m G2 ∧ Pks u7 gb m G2 ∧ Duo H (fun _ => False) w u7 p r n q L' G2 L' G2) := ⟨pk7, HP.out.1.below B7.out, m7⟩; clear pk7 m7 b7) | (go_at_call 20; refine (psame_leads u7 ga gb m ca gc G2 H7.out.1 H7.out.2.1 (by have := HP.out.2.2; omega)).mono ?_; rintro e u8 ⟨rfl, b8⟩; have C8 : Hid (u8.cell? ⟨r, 3, none⟩ = some (.slice gb m gc)) := cell_below C7.out b8; have H8 : Hid (Duo H (fun _ => False) w u8 p r n q L' G2 L' G2) := H7.out.2.2.on S b8; clear b8))
            clear H5
            go_wp2_with fail
            go_loopw [16] (fun x wq => ∃ j : Nat, j ≤ 3 ∧ x = .int .i64 j ∧ Duo H (fun _ => False) w wq p r n q L' G2 L' G2) (fun x _ => 3 - (intOf x).toNat)
            case atStart => exact ⟨0, by omega, rfl, H8.out⟩
            case round =>
              obtain ⟨j, hj, rfl, hm⟩ := hrel
              have HJ : Hid (Duo H (fun _ => False) w wr p r n q L' G2 L' G2) := hm
              clear hm H8
              by_cases hj3 : j < 3
              · have hj3' : (j : Int) < 3 := by omega
                by_cases hjn : j < n
                · have hjn' : (j : Int) < (n : Int) := by omega
                  obtain ⟨c, hc⟩ : ∃ c, (Hst.lane L' (j : Int)).length = c := ⟨_, rfl⟩
                  have HC : Hid ((Hst.lane L' (j : Int)).length = c) := hc
                  clear hc
                  go_wp2_with fail
                  refine (d_waits S HJ.out (j : Int) (z64_small (by omega)) HC.out).mono ?_
                  rintro e u9 ⟨rfl, m9⟩
                  have H9 : Hid (Duo H (fun _ => False) w u9 p r n q L' G2 L' G2) := m9
                  clear m9 HJ
                  go_wp2_with fail
                  refine (d_rwaits H9.out (j : Int) HC.out).mono ?_
                  rintro e u10 ⟨rfl, rfl⟩
                  go_wp2_with fail
                  go_roundw
                  case rel => first | exact ⟨j + 1, by omega, by go_num, H9.out⟩ | ((repeat apply Exists.intro); exact ⟨⟨j + 1, by omega, by go_num, H9.out⟩, rfl⟩)
                  case measure => simp [intOf]; omega
                · have hjn' : ¬ (j : Int) < (n : Int) := by omega
                  have hjn2 : (n : Int) ≤ (j : Int) := by omega
                  have HC : Hid ((Hst.lane L' (j : Int)).length = 0) := by show _ = _; rw [(HJ.out.fit S).out (.inr hjn2)]; rfl
                  go_wp2_with fail
                  refine (d_waits S HJ.out (j : Int) (z64_small (by omega)) HC.out).mono ?_
                  rintro e u9 ⟨rfl, m9⟩
                  have H9 : Hid (Duo H (fun _ => False) w u9 p r n q L' G2 L' G2) := m9
                  clear m9 HJ
                  go_wp2_with fail
                  go_roundw
                  case rel => first | exact ⟨j + 1, by omega, by go_num, H9.out⟩ | ((repeat apply Exists.intro); exact ⟨⟨j + 1, by omega, by go_num, H9.out⟩, rfl⟩)
                  case measure => simp [intOf]; omega
              · obtain rfl : j = 3 := by omega
                go_wp2_with fail
                go_roundw
                case rel => first | exact ⟨k + 1, L', G2, by omega, by go_num, HL.out, HJ.out⟩ | ((repeat apply Exists.intro); exact ⟨⟨k + 1, L', G2, by omega, by go_num, HL.out, HJ.out⟩, rfl⟩)
                case measure => simp [intOf]; omega
          · obtain ⟨y, hy⟩ : ∃ y, Hst.putE n q L ⟨vs, vd, z', vb⟩ = y := ⟨_, rfl⟩
            obtain ⟨L', hL'⟩ : ∃ L', Hst.putL n q L ⟨vs, vd, z', vb⟩ = L' := ⟨_, rfl⟩
            have HX : Hid (Hst.putE n q L ⟨vs, vd, z', vb⟩ = y ∧ Hst.putL n q L ⟨vs, vd, z', vb⟩ = L') := ⟨hy, hL'⟩
            have hy3 : y = 0 ∨ y = 1 ∨ y = 150 := by
              rw [← hy]
              unfold Hst.putE
              split
              · omega
              · split <;> omega
            clear hy hL'
            have hyw : IntKind.i64.wrap y = y := by rcases hy3 with rfl | rfl | rfl <;> rfl
            go_wp2_with fail
            go_region_held3 (fun w' => w'.cell? ⟨bx, 1, none⟩ = some (.int .i64 vs) ∧ w'.cell? ⟨bx, 2, none⟩ = some (.int .i64 vd) ∧ w'.cell? ⟨bx, 3, none⟩ = some (.int .i64 z') ∧ w'.cell? ⟨bx, 4, none⟩ = some (.int .u32 vb)) (first | exact CK2.out | exact CK1.out | exact (HI.out.below (pk_drewN_below W 1)).four)
              (first | (go_at_call 13; refine (d_put S (HD.out.on S (pk_drewN_below W 1)) HZ.out ⟨vs, vd, z', vb⟩ HV.out.2 HX.out.1 HX.out.2).mono ?_; rintro e u4 ⟨rfl, m4, s4⟩; have I4 : Hid (OpIn u4 bx ⟨vk, ⟨vs, vd, z', vb⟩, l', vn⟩) := (HI.out.below (pk_drewN_below W 1)).sans s4 (fun e => e rfl); have CK1 : Hid (u4.cell? ⟨bx, 1, none⟩ = some (.int .i64 vs) ∧ u4.cell? ⟨bx, 2, none⟩ = some (.int .i64 vd) ∧ u4.cell? ⟨bx, 3, none⟩ = some (.int .i64 z') ∧ u4.cell? ⟨bx, 4, none⟩ = some (.int .u32 vb)) := I4.out.four; have H4 : Hid (Duo H (fun j => j = bx) w u4 p r n q L' G L G ∧ ∀ j, j = bx → j < u4.heap.size) := ⟨m4, fun j e => by rw [e]; exact cell_lt I4.out.1⟩; clear m4 s4) | (go_at_call 19; refine (d_rput S H4.out.1 H4.out.2 ⟨vs, vd, z', vb⟩ HX.out.1 HX.out.2).mono ?_; rintro e u6 ⟨rfl, m5, s5⟩; have CK2 : Hid (u6.cell? ⟨bx, 1, none⟩ = some (.int .i64 vs) ∧ u6.cell? ⟨bx, 2, none⟩ = some (.int .i64 vd) ∧ u6.cell? ⟨bx, 3, none⟩ = some (.int .i64 z') ∧ u6.cell? ⟨bx, 4, none⟩ = some (.int .u32 vb)) := (I4.out.sans s5 (fun e => e rfl)).four; have H5 : Hid (Duo H (fun _ => False) w u6 p r n q L' G L' G) := m5.wider S (fun j e => e.elim); clear m5 s5))
            try simp only [hyw, beq_self_eq_true]
            have HL : Hid (G.length ≤ k + 1) := by have := HGk.out; show _ ≤ _; omega
            clear hyw hy3 q0 q1 q2 q3 q4 q5

            obtain ⟨m, hm⟩ : ∃ m, G.length = m := ⟨_, rfl⟩
            obtain ⟨gb, gc, hc3, hpk⟩ := H5.out.came (by have := HL.out; have := HGk.out; omega) hm
            have HP : Hid (Pks u6 gb m G ∧ u6.cell? ⟨r, 3, none⟩ = some (.slice gb m gc) ∧ G.length = m ∧ m ≤ 101) := ⟨hpk, hc3, hm, by have := HL.out; have := HGk.out; omega⟩
            clear hpk hm
            go_wp2_with fail
            go_region_held3 (fun w' => w'.cell? ⟨r, 3, none⟩ = some (.slice gb m gc)) (first | exact C8.out | exact C7.out | exact cell_below HP.out.2.1 (pk_drewN_below u6 1))
              (first | (go_at_call 12; refine (d_got S (H5.out.on S (pk_drewN_below u6 1)) (by have := HP.out.2.2; omega) HP.out.2.2.1).mono ?_; rintro e u7 ⟨ga, ca, rfl, pk7, m7, b7⟩; have B7 : Hid (Below u6.heap.size u6 u7) := later (pk_drewN_below u6 1) b7; have C7 : Hid (u7.cell? ⟨r, 3, none⟩ = some (.slice gb m gc)) := cell_below HP.out.2.1 B7.out; have H7 : Hid (Pks u7 ga m G ∧ Pks u7 gb m G ∧ Duo H (fun _ => False) w u7 p r n q L' G L' G) := ⟨pk7, HP.out.1.below B7.out, m7⟩; clear pk7 m7 b7) | (go_at_call 20; refine (psame_leads u7 ga gb m ca gc G H7.out.1 H7.out.2.1 (by have := HP.out.2.2; omega)).mono ?_; rintro e u8 ⟨rfl, b8⟩; have C8 : Hid (u8.cell? ⟨r, 3, none⟩ = some (.slice gb m gc)) := cell_below C7.out b8; have H8 : Hid (Duo H (fun _ => False) w u8 p r n q L' G L' G) := H7.out.2.2.on S b8; clear b8))
            clear H5
            go_wp2_with fail
            go_loopw [16] (fun x wq => ∃ j : Nat, j ≤ 3 ∧ x = .int .i64 j ∧ Duo H (fun _ => False) w wq p r n q L' G L' G) (fun x _ => 3 - (intOf x).toNat)
            case atStart => exact ⟨0, by omega, rfl, H8.out⟩
            case round =>
              obtain ⟨j, hj, rfl, hm⟩ := hrel
              have HJ : Hid (Duo H (fun _ => False) w wr p r n q L' G L' G) := hm
              clear hm H8
              by_cases hj3 : j < 3
              · have hj3' : (j : Int) < 3 := by omega
                by_cases hjn : j < n
                · have hjn' : (j : Int) < (n : Int) := by omega
                  obtain ⟨c, hc⟩ : ∃ c, (Hst.lane L' (j : Int)).length = c := ⟨_, rfl⟩
                  have HC : Hid ((Hst.lane L' (j : Int)).length = c) := hc
                  clear hc
                  go_wp2_with fail
                  refine (d_waits S HJ.out (j : Int) (z64_small (by omega)) HC.out).mono ?_
                  rintro e u9 ⟨rfl, m9⟩
                  have H9 : Hid (Duo H (fun _ => False) w u9 p r n q L' G L' G) := m9
                  clear m9 HJ
                  go_wp2_with fail
                  refine (d_rwaits H9.out (j : Int) HC.out).mono ?_
                  rintro e u10 ⟨rfl, rfl⟩
                  go_wp2_with fail
                  go_roundw
                  case rel => first | exact ⟨j + 1, by omega, by go_num, H9.out⟩ | ((repeat apply Exists.intro); exact ⟨⟨j + 1, by omega, by go_num, H9.out⟩, rfl⟩)
                  case measure => simp [intOf]; omega
                · have hjn' : ¬ (j : Int) < (n : Int) := by omega
                  have hjn2 : (n : Int) ≤ (j : Int) := by omega
                  have HC : Hid ((Hst.lane L' (j : Int)).length = 0) := by show _ = _; rw [(HJ.out.fit S).out (.inr hjn2)]; rfl
                  go_wp2_with fail
                  refine (d_waits S HJ.out (j : Int) (z64_small (by omega)) HC.out).mono ?_
                  rintro e u9 ⟨rfl, m9⟩
                  have H9 : Hid (Duo H (fun _ => False) w u9 p r n q L' G L' G) := m9
                  clear m9 HJ
                  go_wp2_with fail
                  go_roundw
                  case rel => first | exact ⟨j + 1, by omega, by go_num, H9.out⟩ | ((repeat apply Exists.intro); exact ⟨⟨j + 1, by omega, by go_num, H9.out⟩, rfl⟩)
                  case measure => simp [intOf]; omega
              · obtain rfl : j = 3 := by omega
                go_wp2_with fail
                go_roundw
                case rel => first | exact ⟨k + 1, L', G, by omega, by go_num, HL.out, HJ.out⟩ | ((repeat apply Exists.intro); exact ⟨⟨k + 1, L', G, by omega, by go_num, HL.out, HJ.out⟩, rfl⟩)
                case measure => simp [intOf]; omega
        · obtain rfl : k = len := by omega
          have HC : Hid ((Hst.lane L (-1)).length = 0) := by show _ = _; rw [(HM.out.fit S).out (.inl (by omega))]; rfl
          go_wp2_with fail
          refine (d_waits S HM.out (-1) (z64_small (by omega)) HC.out).mono ?_
          rintro e u9 ⟨rfl, m9⟩
          have H9 : Hid (Below w.heap.size w u9) := m9.below
          clear m9 HM
          go_wp2_with fail
          go_ret
          exact ⟨rfl, H9.out⟩
    · have HB : Hid (¬ ((1 ≤ a0 ∧ a0 ≤ 3) ∧ 1 ≤ a1 ∧ a1 ≤ 8)) := hg
      clear hg
      go_enter Try.func5, Try.ntmps5
      go_wp2_with fail
      refine (hknown_any S _).mono ?_
      rintro e u0 ⟨rfl, b0⟩
      go_wp2_with fail
      refine (S.new_no a0 a1 h0 h1 HB.out _).mono ?_
      rintro e u1 ⟨rfl, b1⟩
      go_wp2_with fail
      refine (rhNew_no a0 a1 HB.out _).mono ?_
      rintro e u2 ⟨rfl, rfl⟩
      go_wp2_with fail
      go_ret
      exact ⟨rfl, later b0 b1⟩
theorem hostDoes_any {H : HostRel} (S : HostSpec H) (w : World) (a0 : Int) (w0 : (Lit.int .i64 a0).wf = true) (a1 : Int) (w1 : (Lit.int .i64 a1).wf = true) (a : Option Addr) (len cap : Nat) (os : List OpV) (ho : Ops w a len os) :
    Calls Try.prog 5 #[.int .i64 a0, .int .i64 a1, .slice a len cap] w fun e w' => e = .returned (.bool true) ∧ Below w.heap.size w w' :=
  hostDoes_walk S a0 a1 (bounds_i64 w0) (bounds_i64 w1) a len cap os w ho
end Go.Proofs.Ytfldhjeeoaplfaa
