/-
  Contracts and plain facts that the walks lean on (NodeG, NodeMatch, NodeH). Conditions: none but those that each states.
-/
import Derived.Test.YtniicgbkeifnjaaGreatDoorQ38
namespace Go.Proofs.YtniicgbkeifnjaaGreatDoor
open Go.ChangeShapes Go.WideShapes Go.ChangeAt Go.RowKit
set_option linter.unusedVariables false
set_option maxRecDepth 100000
namespace Nd
theorem feed1_full {c : Cfg} {s : St} {l : Nat} (h : c.room ≤ inside s 0 l c.P) : feed1 c s l = s := if_pos h
theorem feed1_none {c : Cfg} {s : St} {l : Nat} (h : ¬ c.room ≤ inside s 0 l c.P) (hl : K.Hst.lane s.hL (l : Nat) = []) : feed1 c s l = s := by
  unfold feed1
  rw [if_neg h, hl]
theorem feed1_some {c : Cfg} {s : St} {l : Nat} {x : Pk} {r : List Pk} (h : ¬ c.room ≤ inside s 0 l c.P) (hl : K.Hst.lane s.hL (l : Nat) = x :: r) : feed1 c s l = push c { s with hL := K.Hst.drop1 s.hL (l : Nat) } 0 (c.way x.d.toNat) l x := by
  unfold feed1
  rw [if_neg h, hl]
theorem drop1_nil {L : List Pk} {z : Int} (h : K.Hst.lane L z = []) : K.Hst.drop1 L z = L := by
  unfold K.Hst.drop1
  refine List.eraseP_of_forall_not (fun y hy e => ?_)
  have : y ∈ K.Hst.lane L z := List.mem_filter.2 ⟨hy, e⟩
  rw [h] at this
  simp at this
theorem pushQ_mem {b : Bool} {Q : K.Pl → List Pk} {q0 q : K.Pl} {x y : Pk} (h : y ∈ K.pushQ b Q q0 x q) : y ∈ Q q ∨ y = x := by
  unfold K.pushQ at h
  cases b with
  | false => exact .inl h
  | true =>
    simp only [if_true] at h
    by_cases e : q = q0
    · subst e
      rw [K.upd_same] at h
      rcases List.mem_append.1 h with h | h
      · exact .inl h
      · exact .inr (List.mem_singleton.1 h)
    · rw [K.upd_other _ _ e] at h
      exact .inl h
section
variable {Z F0 F FH FR : Nat → Prop} {w0 w : World} {B : Lb → Nat} {ph pr m bx : Nat} {c : Cfg} {s : St} {os : Outs}
theorem pushed (T : TickAt Z w0 F0 w F (B .p) c s m bx os) (h : NIn w F FH FR B ph pr c s m) (hm : m ≤ 99000) (i o l : Nat) (hi : i ≤ 100) (ho : o ≤ 100) (hl : l ≤ 100) (x : Pk) (hx : 0 ≤ x.b ∧ x.b < 4294967296) {u : World} (hB : Below w.heap.size w u) :
    Calls Tryz.prog 103 #[.pointer (some ⟨pr, 0, none⟩), .int .i64 i, .int .i64 o, .int .i64 l, .agg #[.int .i64 x.s, .int .i64 x.d, .int .i64 x.l, .int .u32 x.b]] u fun e w' => AnyB e ∧ ∃ F', TickAt Z w0 F0 w' F' (B .p) c (push c s i o l x) (m + 1) bx os ∧ w'.cell? ⟨B .p, 9, none⟩ = some (.pointer (some ⟨pr, 0, none⟩)) ∧ Sans (fun j => ¬ Z j) u w' := by
  have hN := h.below hB
  refine (K.rpush_any hN.rings (by omega) (i : Nat) (o : Nat) (l : Nat) (wf3 (by omega) (by omega) (by omega)) x _ rfl).mono ?_
  rintro e w' ⟨he, F', hv, hg⟩
  obtain ⟨n1, n2⟩ := hN.upRings hg hv (fun q y hy => (pushQ_mem hy).elim (h.st.qd q y) (fun e => by rw [e]; exact hx))
  obtain ⟨t1, t2⟩ := (T.on hB).turn ⟨_, _, _, _, _, rfl, n1⟩ n2
  exact ⟨⟨_, he⟩, _, t1, n1.c9, t2⟩
theorem hostNext (T : TickAt Z w0 F0 w F (B .p) c s m bx os) (h : NIn w F FH FR B ph pr c s m) (l : Nat) {x : Pk} {b : Bool} (hx : K.Hst.hdk (K.Hst.lane s.hL (l : Nat)) = x) (hb : (!(K.Hst.lane s.hL (l : Nat)).isEmpty) = b) :
    Calls Tryz.prog 102 #[.pointer (some ⟨ph, 0, none⟩), .int .i64 l] w fun e w' => e = .returned (.tuple #[.agg #[.int .i64 x.s, .int .i64 x.d, .int .i64 x.l, .int .u32 x.b], .bool b]) ∧ ∃ F' FH', NIn w' F' FH' FR B ph pr c { s with hL := K.Hst.drop1 s.hL (l : Nat) } (m + 1) ∧ TickAt Z w0 F0 w' F' (B .p) c { s with hL := K.Hst.drop1 s.hL (l : Nat) } (m + 1) bx os ∧ Sans (fun j => ¬ Z j) w w' := by
  refine (K.hNext_any h.host (l : Nat) hx hb rfl).mono ?_
  rintro e w' ⟨he, F', hv, hg⟩
  obtain ⟨n1, n2⟩ := h.upHost hg hv (fun y hy => h.st.hd y (by unfold K.Hst.drop1 at hy; exact List.mem_of_mem_eraseP hy)) (Nat.le_succ_of_le h.st.gn)
  obtain ⟨t1, t2⟩ := T.turn ⟨_, _, _, _, _, rfl, n1⟩ n2
  exact ⟨he, _, _, n1, t1, t2⟩
theorem lane_head {L : List Pk} {z : Int} {x : Pk} {r : List Pk} (h : K.Hst.lane L z = x :: r) : x ∈ L := by
  have : x ∈ K.Hst.lane L z := by rw [h]; exact List.mem_cons_self
  exact (List.mem_filter.1 this).1
set_option maxHeartbeats 8000000 in
set_option maxRecDepth 100000 in
theorem admit_any {p : Nat} (T : TickAt Z w0 F0 w F p c s m bx os) (hm : m ≤ 90000) :
    Calls Tryz.prog 47 #[.pointer (some ⟨p, 0, none⟩)] w fun e w' => e = .returned (.tuple #[]) ∧ ∃ F', TickAt Z w0 F0 w' F' p c (feed c s) (m + 6) bx os ∧ Sans (fun j => ¬ Z j) w w' := by
  have hL := T.node.cfg.L3
  have hP := T.node.cfg.P6
  have hN6 := T.node.cfg.N6
  have HT : Hid (TickAt Z w0 F0 w F p c s m bx os) := T
  obtain ⟨L, hLe⟩ : ∃ L, c.L = L := ⟨_, rfl⟩
  have HL : Hid (c.L = L) := hLe
  have HFd : Hid (feed c s = feedTo c s L) := by show _ = _; unfold feed; rw [hLe]
  rw [hLe] at hL
  have c1 : w.cell? ⟨p, 1, none⟩ = some (.int .i64 (L : Nat)) := by
    obtain ⟨FH, FR, B, ph, pr, e, h⟩ := T.node
    rw [← e, ← hLe]
    exact h.c1
  clear T hLe
  go_enter Tryz.func47, Tryz.ntmps47
  go_wp2_with fail
  clear c1
  go_loopw [2, 3, 4, 9] (fun _ _ _ j wr => ∃ k : Nat, k ≤ L ∧ j = .int .i64 k ∧ ∃ F', TickAt Z w0 F0 wr F' p c (feedTo c s k) (m + 2 * k) bx os ∧ Sans (fun j => ¬ Z j) w wr) (fun _ _ _ j _ => L - (intOf j).toNat)
  case atStart => exact ⟨0, Nat.zero_le _, rfl, F, HT.out, Sans.refl _ _⟩
  case round =>
    obtain ⟨k, hk, rfl, F', t, sz⟩ := hrel
    have HT1 : Hid (TickAt Z w0 F0 wr F' p c (feedTo c s k) (m + 2 * k) bx os) := t
    have HS1 : Hid (Sans (fun j => ¬ Z j) w wr) := sz
    clear t sz HT
    by_cases hkn : k < L
    · obtain ⟨sk, hsk⟩ : ∃ sk, feedTo c s k = sk := ⟨_, rfl⟩
      have HSk : Hid (feedTo c s (k + 1) = feed1 c sk k) := by show _ = _; rw [← hsk]; rfl
      rw [hsk] at HT1
      clear hsk
      obtain ⟨FH, FR, B, ph, pr, rfl, hn⟩ := HT1.out.node
      have HN : Hid (NIn wr F' FH FR B ph pr c sk (m + 2 * k)) := hn
      obtain ⟨mm, hmm⟩ : ∃ mm, m + 2 * k = mm := ⟨_, rfl⟩
      have hmm9 : mm ≤ 95000 := by omega
      have HMM : Hid (m + 2 * (k + 1) = mm + 2) := by show _ = _; omega
      rw [hmm] at HN HT1
      obtain ⟨y, hy⟩ : ∃ y, inside sk 0 k c.P = y := ⟨_, rfl⟩
      have HY : Hid (inside sk 0 k c.P = y) := hy
      have k2 := hn.c2
      have hne := Since.any wr
      have c2 := fun u : Since wr => u.cell k2
      have HNu : Hid (∀ u : Since wr, NIn u.w F' FH FR B ph pr c sk mm) := fun u => HN.out.below u.h
      clear hn hmm hy k2
      go_wp2_with fail
      refine region_since (u := wr) (by kernel_rfl) (by kernel_rfl) (Below.refl _ _) ?_
      repeat (go_big_quiet_step (first | (go_at_call 101; exact Since.calls _ ((ninside_any (HNu.out _) (by omega) 0 k (by omega) (by omega) HY.out).mono fun e w' ⟨he, hw⟩ => ⟨he, by rw [hw]; exact Below.refl _ _⟩))))
      refine wpQuiet_nil ?_
      intro _ hw'
      obtain ⟨nq, hw''⟩ := hw'
      subst hw''
      have HN2 : Hid (NIn nq.w F' FH FR B ph pr c sk mm) := HNu.out nq
      have HT2 : Hid (TickAt Z w0 F0 nq.w F' (B .p) c sk mm bx os) := HT1.out.on nq.h
      have HS2 : Hid (Sans (fun j => ¬ Z j) w nq.w) := HS1.out.then (Sans.of_below nq.h)
      clear c2 hne
      by_cases hf : c.room ≤ y
      · have hf' : (c.room : Int) ≤ (y : Int) := by omega
        have HE : Hid (feedTo c s (k + 1) = sk) := by show _ = _; rw [HSk.out]; exact feed1_full (by rw [HY.out]; exact hf)
        go_wp2_with fail
        go_roundw
        case rel => exact ⟨k + 1, by omega, by go_num, F', by rw [HE.out, HMM.out]; exact HT2.out.mono (by omega), HS2.out⟩
        case measure => simp [intOf]; omega
      · have hf' : ¬ (c.room : Int) ≤ (y : Int) := by omega
        have HF : Hid (¬ c.room ≤ inside sk 0 k c.P) := by show ¬ _; rw [HY.out]; exact hf
        have k8 := HN2.out.c8
        cases hl : K.Hst.lane sk.hL (k : Nat) with
        | nil =>
          have HLn : Hid (K.Hst.lane sk.hL (k : Nat) = []) := hl
          have HE : Hid (feedTo c s (k + 1) = sk) := by show _ = _; rw [HSk.out]; exact feed1_none HF.out hl
          have HNx : Hid _ := hostNext HT2.out HN2.out k (x := zpk) (b := false) (by rw [hl]; rfl) (by rw [hl]; rfl)
          rw [drop1_nil hl] at HNx
          clear hl
          go_wp2_with fail
          refine Calls.mono HNx.out ?_
          rintro e u ⟨rfl, F3, FH3, n3, t3, s3⟩
          have HT3 : Hid (TickAt Z w0 F0 u F3 (B .p) c sk (mm + 1) bx os) := t3
          have HS3 : Hid (Sans (fun j => ¬ Z j) w u) := HS2.out.then s3
          obtain ⟨X, hX⟩ : ∃ X, X = u.alloc (.cells #[.int .i64 zpk.s, .int .i64 zpk.d, .int .i64 zpk.l, .int .u32 zpk.b] 25) := ⟨_, rfl⟩
          have HT4 : Hid (TickAt Z w0 F0 X F3 (B .p) c sk (mm + 1) bx os) := by rw [hX]; exact HT3.out.on (fresh _ _)
          have HS4 : Hid (Sans (fun j => ¬ Z j) w X) := by rw [hX]; exact HS3.out.then (Sans.alloc _ _)
          clear n3 t3 s3 HNx
          go_upto_region 5 with fail
          rw [← hX]
          clear hX
          go_wp2_with fail
          go_roundw
          case rel => exact ⟨k + 1, by omega, by go_num, F3, by rw [HE.out, HMM.out]; exact HT4.out.mono (by omega), HS4.out⟩
          case measure => simp [intOf]; omega
        | cons x r =>
          have HE : Hid (feedTo c s (k + 1) = push c { sk with hL := K.Hst.drop1 sk.hL (k : Nat) } 0 (c.way x.d.toNat) k x) := by show _ = _; rw [HSk.out]; exact feed1_some HF.out hl
          have hxd := HN2.out.st.hd x (lane_head hl)
          have HNx : Hid _ := hostNext HT2.out HN2.out k (x := x) (b := true) (by rw [hl]; rfl) (by rw [hl]; rfl)
          obtain ⟨xs, xd, xl, xb⟩ := x
          simp only at hxd HNx
          obtain ⟨d, rfl⟩ := Int.eq_ofNat_of_zero_le hxd.1.1
          have hdN : d < c.N := by have := hxd.1.2; omega
          have HXb : Hid (0 ≤ xb ∧ xb < 4294967296) := hxd.2
          obtain ⟨z, hz⟩ : ∃ z, c.way d = z := ⟨_, rfl⟩
          have HW : Hid (c.way d = z) := hz
          have hzP : z < 7 := by have := HN2.out.cfg.way d hdN; omega
          simp only [Int.toNat_natCast, hz] at HE
          clear hl hxd hz
          go_wp2_with fail
          refine Calls.mono HNx.out ?_
          rintro e u ⟨rfl, F3, FH3, n3, t3, s3⟩
          have HN3 : Hid (NIn u F3 FH3 FR B ph pr c { sk with hL := K.Hst.drop1 sk.hL (k : Nat) } (mm + 1)) := n3
          have HT3 : Hid (TickAt Z w0 F0 u F3 (B .p) c { sk with hL := K.Hst.drop1 sk.hL (k : Nat) } (mm + 1) bx os) := t3
          have HS3 : Hid (Sans (fun j => ¬ Z j) w u) := HS2.out.then s3
          obtain ⟨b2, hb2⟩ : ∃ b2, u.heap.size = b2 := ⟨_, rfl⟩
          obtain ⟨X, hX⟩ : ∃ X, X = u.alloc (.cells #[.int .i64 xs, .int .i64 (d : Nat), .int .i64 xl, .int .u32 xb] 25) := ⟨_, rfl⟩
          have hBX : Below u.heap.size u X := by rw [hX]; exact fresh _ _
          have HN4 : Hid (NIn X F3 FH3 FR B ph pr c { sk with hL := K.Hst.drop1 sk.hL (k : Nat) } (mm + 1)) := HN3.out.below hBX
          have HT4 : Hid (TickAt (fun j => Z j ∨ j = b2) w0 F0 X F3 (B .p) c { sk with hL := K.Hst.drop1 sk.hL (k : Nat) } (mm + 1) bx os) := HT3.out.wider hBX (fun j e => e.imp id (fun e => by rw [hX, World.size_alloc]; omega))
          have HS4 : Hid (Sans (fun j => ¬ Z j) w X) := HS3.out.then (Sans.of_below hBX)
          have HPX : Hid (PkAt X b2 0 ⟨xs, (d : Nat), xl, xb⟩) := by rw [hX, ← hb2]; exact PkAt.new u ⟨xs, (d : Nat), xl, xb⟩
          clear n3 t3 s3 HNx hBX k8
          go_upto_region 5 with fail
          rw [← hX]
          clear hX
          obtain ⟨px0, px1, px2, px3⟩ := HPX.out
          simp only [Nat.zero_add] at px1 px2 px3
          have k9 := HN4.out.c9
          go_wp2_with fail
          go_region_held3 (fun w' => w'.cell? ⟨B .p, 9, none⟩ = some (.pointer (some ⟨pr, 0, none⟩)) ∧ w'.cell? ⟨b2, 0, none⟩ = some (.int .i64 xs) ∧ w'.cell? ⟨b2, 1, none⟩ = some (.int .i64 (d : Nat)) ∧ w'.cell? ⟨b2, 2, none⟩ = some (.int .i64 xl) ∧ w'.cell? ⟨b2, 3, none⟩ = some (.int .u32 xb)) (first | exact CK5.out | go_keep)
            (first
              | (go_at_call 104; refine (portof_any (HN4.out.below (K.drewN_below _ 1)) d hdN HW.out).mono ?_; rintro e v ⟨rfl, hq⟩; obtain rfl := hq.symm)
              | (go_at_call 103; refine (pushed HT4.out HN4.out (by omega) 0 z k (by omega) (by omega) (by omega) ⟨xs, (d : Nat), xl, xb⟩ HXb.out (K.drewN_below _ 1)).mono ?_; rintro e u5 ⟨⟨b5, rfl⟩, F5, t5, k95, s5⟩; have HT5 : Hid (TickAt (fun j => Z j ∨ j = b2) w0 F0 u5 F5 (B .p) c (push c { sk with hL := K.Hst.drop1 sk.hL (k : Nat) } 0 z k ⟨xs, (d : Nat), xl, xb⟩) (mm + 1 + 1) bx os) := t5; have hpk5 := (HPX.out.below (K.drewN_below _ 1)).sans s5 (fun e => e (.inr rfl)); have CK5 : Hid (u5.cell? ⟨B .p, 9, none⟩ = some (.pointer (some ⟨pr, 0, none⟩)) ∧ u5.cell? ⟨b2, 0, none⟩ = some (.int .i64 xs) ∧ u5.cell? ⟨b2, 1, none⟩ = some (.int .i64 (d : Nat)) ∧ u5.cell? ⟨b2, 2, none⟩ = some (.int .i64 xl) ∧ u5.cell? ⟨b2, 3, none⟩ = some (.int .u32 xb)) := ⟨k95, hpk5.1, hpk5.2.1, hpk5.2.2.1, hpk5.2.2.2⟩; have HS5 : Hid (Sans (fun j => ¬ Z j) w u5) := HS4.out.then ((Sans.drewN X 1).then (s5.mono (fun j e => fun e2 => e (.inl e2)))); clear t5 k95 s5 hpk5))
          go_wp2_with fail
          go_roundw
          case rel => exact ⟨k + 1, by omega, by go_num, F5, by rw [HE.out, HMM.out]; exact HT5.out.less (fun j e => .inl e), HS5.out⟩
          case measure => simp [intOf]; omega
    · obtain rfl : k = L := by omega
      have c1 : wr.cell? ⟨p, 1, none⟩ = some (.int .i64 (k : Nat)) := by
        obtain ⟨FH, FR, B, ph, pr, e, h⟩ := HT1.out.node
        rw [← e, ← HL.out]
        exact h.c1
      go_wp2_with fail
      refine bodyPost_end (results_none rfl _ _ _) rfl ?_
      rw [HFd.out]
      exact ⟨rfl, F', HT1.out.mono (by omega), HS1.out⟩
end
end Nd
end Go.Proofs.YtniicgbkeifnjaaGreatDoor
namespace Go.Proofs.YtniicgbkeifnjaaGreatDoor.Nd
open Go.ChangeShapes Go.WideShapes Go.ChangeAt Go.RowKit
set_option linter.unusedVariables false
set_option maxRecDepth 100000
theorem goes_may (c : Cfg) (s : St) {i o i' o' : Nat} (l : Nat) (hi : i ≠ i') (ho : o ≠ o') : may c (goes c s i' o' l).1 i o = may c s i o := by
  funext z
  have hq : (goes c s i' o' l).1.Q ((i : Nat), (o : Nat), (z : Nat)) = s.Q ((i : Nat), (o : Nat), (z : Nat)) := by
    have hne : (((i : Nat) : Int), ((o : Nat) : Int), ((z : Nat) : Int)) ≠ (((i' : Nat) : Int), ((o' : Nat) : Int), ((l : Nat) : Int)) := by
      intro e
      simp only [Prod.mk.injEq] at e
      omega
    unfold goes
    by_cases h : o' = 0
    · simp only [h, if_true]
      subst h
      exact K.upd_other _ _ hne
    · simp only [if_neg h]
      exact K.upd_other _ _ hne
  have hs : (goes c s i' o' l).1.s o z = s.s o z := by
    unfold goes
    by_cases h : o' = 0
    · simp only [h, if_true]
    · simp only [if_neg h]
      exact up2_not _ _ (fun e => ho e.1)
  unfold may
  rw [hq, hs]
theorem pass_may (c : Cfg) (s : St) {i o i' o' : Nat} (hi : i ≠ i') (ho : o ≠ o') : mayM c (pass c s i' o').1 i o = mayM c s i o := by
  unfold pass
  split
  · rfl
  · unfold mayM
    rw [goes_may c _ _ hi ho]
    rfl
theorem pass_len (c : Cfg) (s : St) (i o : Nat) : (pass c s i o).2.length ≤ 1 := by
  unfold pass
  split
  · simp
  · unfold goes
    by_cases h : o = 0
    · simp only [h, if_true]; simp
    · simp only [if_neg h]; simp
theorem passTo_len (c : Cfg) (m : Nat → Int) (s : St) : ∀ k, (passTo c m s k).2.length ≤ k
  | 0 => by simp [passTo]
  | k + 1 => by
    have ih := passTo_len c m s k
    unfold passTo
    split
    · omega
    · rw [List.length_append]
      have := pass_len c (passTo c m s k).1 k (m k).toNat
      omega
theorem passTo_may {c : Cfg} {m : Nat → Int} {s : St} (hone : ∀ i j o : Nat, m i = (o : Nat) → m j = (o : Nat) → i = j) {i o : Nat} (ho : m i = (o : Nat)) : ∀ k, k ≤ i → mayM c (passTo c m s k).1 i o = mayM c s i o
  | 0, _ => rfl
  | k + 1, hk => by
    have ih := passTo_may (c := c) (s := s) hone ho k (by omega)
    unfold passTo
    split
    · exact ih
    · rename_i h
      rw [pass_may c _ (by omega) (fun e => ?_)]
      · exact ih
      · have h2 : m k = (o : Nat) := by
          rw [e]
          have : ((m k).toNat : Int) = m k := Int.toNat_of_nonneg (by omega)
          omega
        have := hone i k o ho h2
        omega
theorem passTo_skip {c : Cfg} {m : Nat → Int} {s : St} {k : Nat} (h : m k < 0) : passTo c m s (k + 1) = passTo c m s k := by
  rw [passTo, if_pos h]
theorem passTo_go {c : Cfg} {m : Nat → Int} {s : St} {k o : Nat} (h : m k = (o : Nat)) : passTo c m s (k + 1) = ((pass c (passTo c m s k).1 k o).1, (passTo c m s k).2 ++ (pass c (passTo c m s k).1 k o).2) := by
  rw [passTo, if_neg (by omega), h]
  rfl
theorem matched_may {c : Cfg} {s : St} {i o : Nat} (h : matched c s i = (o : Nat)) : i < c.P ∧ o < c.P ∧ mayM c s i o ≠ 0 := by
  obtain ⟨h1, h2, h3⟩ := (M.Isl.Ok.run (asks c s) s.g s.a c.P c.rounds).asks i o h
  refine ⟨h1, h2, ?_⟩
  unfold asks at h3
  rw [if_pos h1] at h3
  unfold askM at h3
  rw [maskOf_bit] at h3
  simp only [Bool.and_eq_true, decide_eq_true_eq] at h3
  exact h3.2
theorem matched_one (c : Cfg) (s : St) : ∀ i j o : Nat, matched c s i = (o : Nat) → matched c s j = (o : Nat) → i = j := (M.Isl.Ok.run (asks c s) s.g s.a c.P c.rounds).one
theorem matched_lo (c : Cfg) (s : St) (i : Nat) : -1 ≤ matched c s i := (M.Isl.Ok.run (asks c s) s.g s.a c.P c.rounds).lo i
theorem turned_may (c : Cfg) (s : St) (i o : Nat) : mayM c (turned c s) i o = mayM c s i o := rfl
end Go.Proofs.YtniicgbkeifnjaaGreatDoor.Nd
namespace Go.Proofs.YtniicgbkeifnjaaGreatDoor
open Go.ChangeShapes Go.WideShapes Go.ChangeAt Go.RowKit
set_option linter.unusedVariables false
set_option maxRecDepth 100000
namespace Nd
section
variable {Z F0 F FH FR : Nat → Prop} {w0 w : World} {B : Lb → Nat} {ph pr m bx : Nat} {c : Cfg} {s : St} {os : Outs}
theorem ran {u : World} (T : TickAt Z w0 F0 u F (B .p) c s m bx os) (h : NIn u F FH FR B ph pr c s m) {q : Nat} (hC : M.Cols u q c.P (askM c s)) (hT : M.Tab u) :
    Calls Tryz.prog 105 #[.pointer (some ⟨B .pa, 0, none⟩), .slice (some ⟨q, 0, none⟩) c.P c.P, .int .i64 (c.rounds : Nat)] u fun e w' => ∃ b, e = .returned (.slice (some ⟨b, 0, none⟩) c.P c.P) ∧ u.heap.size ≤ b ∧ b < w'.heap.size ∧ M.Ints w' b c.P (matched c s) ∧ w'.cell? ⟨B .p, 10, none⟩ = some (.pointer (some ⟨B .pa, 0, none⟩)) ∧ w'.cell? ⟨B .p, 3, none⟩ = some (.int .i64 (c.rounds : Nat)) ∧ TickAt (fun j => Z j ∨ j = b) w0 F0 w' F (B .p) c (turned c s) m bx os ∧ Sans (fun j => ¬ Z j) u w' := by
  have hP := h.cfg.P6
  have hP1 : 1 ≤ c.P := by unfold Cfg.P; omega
  have hL := h.cfg.L3
  have hK := h.cfg.rounds4
  have hn : M.Nums .u16 u (some ⟨q, 0, none⟩) c.P ((List.range c.P).map (askM c s)) := hC.nums (by omega) (by simp) (fun k hk => by simp [List.getD, hk])
  refine (M.run_yes h.arb (some ⟨q, 0, none⟩) c.P (Nat.le_refl _) (by omega) ((List.range c.P).map (askM c s)) (fun x hx => ?_) hn hT c.rounds hK.1 (by omega) (asks c s) ?_).mono ?_
  · obtain ⟨i, hi, rfl⟩ := List.mem_map.1 hx
    exact maskOf_16 _ (by omega)
  · funext i
    unfold asks
    rw [List.getD_eq_getElem?_getD]
    by_cases hi : i < c.P
    · simp [hi]
    · simp [hi]
  · rintro e w' ⟨b, he, h1, h2, h3, h4⟩
    have n1 := h.upArb h4 h3
    have hb : b < w'.heap.size := h2.lt hP1
    obtain ⟨t1, t2⟩ := T.turn (F' := F) ⟨_, _, _, _, _, rfl, n1⟩ ⟨h4.mono (fun j e => e.elim (fun e => by rw [e]; exact (h.own .ga trivial).1) (fun e => by rw [e]; exact (h.own .aa trivial).1)), fun j hj => .inl hj⟩
    have t3 : TickAt (fun j => Z j ∨ j = b) w0 F0 w' F (B .p) c (turned c s) m bx os := by
      obtain ⟨v, G, g1, g2, g3, g4, g5, g6, g7, g8, g9, g10, g11⟩ := T
      have hbx : bx < u.heap.size := cell_lt g2
      obtain ⟨v', G', k1, k2, k3, k4, k5, k6, k7, k8, k9, k10, k11⟩ := t1
      have hv : v' = v := by
        have e1 := (h4.cell (p := ⟨bx, 0, none⟩) hbx (fun e => e.elim (fun e => g7 (by have := (h.own .ga trivial).1; rw [← e] at this; exact this)) (fun e => g7 (by have := (h.own .aa trivial).1; rw [← e] at this; exact this)))).trans g2
        rw [k2] at e1
        exact Option.some.inj e1
      subst hv
      refine ⟨v', G, k1, k2, k3, g4.sans h4 (fun j hj e => e.elim (fun e => (g6 j hj).1 (by rw [e]; exact (h.own .ga trivial).1)) (fun e => (g6 j hj).1 (by rw [e]; exact (h.own .aa trivial).1))), g5, g6, g7, g8, k9, g10, fun j hj => ?_⟩
      rcases hj with hj | rfl
      · exact ⟨(k11 j hj).1, (g11 j hj).2⟩
      · exact ⟨hb, fun e => by have := h.foot _ e; omega, fun e => by have := g4.foot _ e; omega, fun e => by omega⟩
    exact ⟨b, he, h1, hb, h2, n1.c10, n1.c3, t3, t2⟩
set_option maxHeartbeats 8000000 in
set_option maxRecDepth 100000 in
theorem move_any {p : Nat} (T : TickAt Z w0 F0 w F p c s m bx os) (hm : m ≤ 80000) (hos : os.length ≤ 800) (hT : M.Tab w) :
    Calls Tryz.prog 48 #[.pointer (some ⟨p, 0, none⟩), .func (Fn.func 45) #[] #[.pointer (some ⟨bx, 0, none⟩)]] w fun e w' => e = .returned (.tuple #[]) ∧ ∃ F', TickAt Z w0 F0 w' F' p c (moved c s).1 (m + 24) bx (os ++ (moved c s).2) ∧ Sans (fun j => ¬ Z j) w w' := by
  obtain ⟨FH, FR, B, ph, pr, rfl, hn⟩ := T.node
  have hP := hn.cfg.P6
  have HN : Hid (NIn w F FH FR B ph pr c s m) := hn
  have HT : Hid (TickAt Z w0 F0 w F (B .p) c s m bx os) := T
  have HTb : Hid (M.Tab w) := hT
  have hpos : 0 < w.heap.size := hT.lt
  have k10 := hn.c10
  have k3 := hn.c3
  obtain ⟨mt, hmt⟩ : ∃ mt, matched c s = mt := ⟨_, rfl⟩
  have HMt : Hid (matched c s = mt) := hmt
  obtain ⟨P, hp⟩ : ∃ P, c.P = P := ⟨_, rfl⟩
  have HP : Hid (c.P = P) := hp
  have HMv : Hid (moved c s = passTo c mt (turned c s) P) := by show _ = _; unfold moved; rw [hmt, hp]
  rw [hp] at hP
  clear T hn hT hmt hp
  go_enter Tryz.func48, Tryz.ntmps48
  go_wp2_with fail
  go_region_held3 (fun w' => w'.cell? ⟨B .p, 10, none⟩ = some (.pointer (some ⟨B .pa, 0, none⟩)) ∧ w'.cell? ⟨B .p, 3, none⟩ = some (.int .i64 (c.rounds : Nat))) (first | exact CK2.out | exact CK1.out | go_keep)
    (first
      | (go_at_call 106; refine (nrequests_any (HN.out.below (K.drewN_below _ 1)) (by omega)).mono ?_; rintro e u ⟨rfl, hC, hB⟩; have HC : Hid (M.Cols u w.heap.size c.P (askM c s)) := hC; have HN1 : Hid (NIn u F FH FR B ph pr c s m) := (HN.out.below (K.drewN_below _ 1)).below hB; have HT1 : Hid (TickAt Z w0 F0 u F (B .p) c s m bx os) := (HT.out.on (K.drewN_below _ 1)).on hB; have CK1 : Hid (u.cell? ⟨B .p, 10, none⟩ = some (.pointer (some ⟨B .pa, 0, none⟩)) ∧ u.cell? ⟨B .p, 3, none⟩ = some (.int .i64 (c.rounds : Nat))) := ⟨HN1.out.c10, HN1.out.c3⟩; have HTb1 : Hid (M.Tab u) := HTb.out.below (later (K.drewN_below w 1) hB) hpos; have HS1 : Hid (Sans (fun j => ¬ Z j) w u) := Sans.of_below (later (K.drewN_below w 1) hB); clear hC hB)
      | (go_at_call 105; refine (ran HT1.out HN1.out HC.out HTb1.out).mono ?_; rintro e u2 ⟨b, rfl, hb1, hb2, hI, h10, h3, t2, s2⟩; rw [HMt.out, HP.out] at hI; have CK2 : Hid (u2.cell? ⟨B .p, 10, none⟩ = some (.pointer (some ⟨B .pa, 0, none⟩)) ∧ u2.cell? ⟨B .p, 3, none⟩ = some (.int .i64 (c.rounds : Nat))) := ⟨h10, h3⟩; have HI : Hid (M.Ints u2 b P mt) := hI; have HT2 : Hid (TickAt (fun j => Z j ∨ j = b) w0 F0 u2 F (B .p) c (turned c s) m bx os) := t2; have HS2 : Hid (Sans (fun j => ¬ Z j) w u2) := HS1.out.then s2; clear hb1 hb2 hI h10 h3 t2 s2))
  rw [HP.out]
  clear k10 k3
  have HLo : Hid (∀ i, -1 ≤ mt i) := fun i => by rw [← HMt.out]; exact matched_lo c s i
  have HMay : Hid (∀ i o : Nat, mt i = (o : Nat) → i < c.P ∧ o < c.P ∧ ∀ k, k ≤ i → mayM c (passTo c mt (turned c s) k).1 i o ≠ 0) := by
    intro i o h
    have h1 : matched c s i = (o : Nat) := by rw [HMt.out]; exact h
    obtain ⟨a1, a2, a3⟩ := matched_may h1
    refine ⟨a1, a2, fun k hk => ?_⟩
    rw [passTo_may (fun i j o h1 h2 => matched_one c s i j o (by rw [HMt.out]; exact h1) (by rw [HMt.out]; exact h2)) h k hk, turned_may]
    exact a3
  obtain ⟨st, hst⟩ : ∃ st, turned c s = st := ⟨_, rfl⟩
  rw [hst] at HMv HMay HT2
  clear hst
  go_wp2_with fail
  go_loopw [4, 5, 18] (fun _ _ j wr => ∃ k : Nat, k ≤ P ∧ j = .int .i64 k ∧ ∃ F', TickAt (fun j => Z j ∨ j = b) w0 F0 wr F' (B .p) c (passTo c mt st k).1 (m + 4 * k) bx (os ++ (passTo c mt st k).2) ∧ M.Ints wr b P mt ∧ Sans (fun j => ¬ Z j) w wr) (fun _ _ j _ => P - (intOf j).toNat)
  case atStart => exact ⟨0, Nat.zero_le _, rfl, F, by rw [show passTo c mt st 0 = (st, []) from rfl, List.append_nil]; exact HT2.out, HI.out, HS2.out⟩
  case round =>
    obtain ⟨k, hk, rfl, F', t, hI, sz⟩ := hrel
    have HTr : Hid (TickAt (fun j => Z j ∨ j = b) w0 F0 wr F' (B .p) c (passTo c mt st k).1 (m + 4 * k) bx (os ++ (passTo c mt st k).2)) := t
    have HIr : Hid (M.Ints wr b P mt) := hI
    have HSr : Hid (Sans (fun j => ¬ Z j) w wr) := sz
    clear t hI sz
    by_cases hkn : k < P
    · have q1 := (HIr.out k hkn).1
      have hkI : (k : Int) < (P : Int) := by omega
      have hlo := HLo.out k
      have hln := passTo_len c mt st k
      by_cases hneg : mt k < 0
      · have hz : mt k = -1 := by omega
        have HE : Hid (passTo c mt st (k + 1) = passTo c mt st k) := passTo_skip hneg
        rw [hz] at q1
        clear hz hneg hlo
        go_wp2_with fail
        go_roundw
        case rel => exact ⟨k + 1, by omega, by go_num, F', by rw [HE.out]; exact HTr.out.mono (by omega), HIr.out, HSr.out⟩
        case measure => simp [intOf]; omega
      · obtain ⟨o, ho⟩ := Int.eq_ofNat_of_zero_le (show 0 ≤ mt k by omega)
        obtain ⟨a1, a2, a3⟩ := HMay.out k o ho
        have HE : Hid (passTo c mt st (k + 1) = ((pass c (passTo c mt st k).1 k o).1, (passTo c mt st k).2 ++ (pass c (passTo c mt st k).1 k o).2)) := passTo_go ho
        have hne := a3 k (Nat.le_refl _)
        obtain ⟨FH2, FR2, B2, ph2, pr2, hB2, n2⟩ := HTr.out.node
        have HPs : Hid _ := pass_any (by rw [hB2]; exact HTr.out) n2 (by omega) (by rw [List.length_append]; omega) a1 a2 hne
        rw [hB2] at HPs
        rw [ho] at q1
        clear ho hneg hlo hne n2 hB2 a1 a2 a3 hln
        go_wp2_with fail
        refine Calls.mono HPs.out ?_
        rintro e u ⟨rfl, F5, t5, s5⟩
        have HT5 : Hid (TickAt (fun j => Z j ∨ j = b) w0 F0 u F5 (B .p) c (passTo c mt st (k + 1)).1 (m + 4 * (k + 1)) bx (os ++ (passTo c mt st (k + 1)).2)) := by
          show TickAt _ _ _ _ _ _ _ _ _ _ _
          rw [HE.out]
          simp only
          rw [← List.append_assoc]
          exact t5.mono (by omega)
        have HI5 : Hid (M.Ints u b P mt) := HIr.out.sans s5 (fun e => e (.inr rfl))
        have HS5 : Hid (Sans (fun j => ¬ Z j) w u) := HSr.out.then (s5.mono (fun j e => fun e2 => e (.inl e2)))
        clear t5 s5 HPs q1
        go_wp2_with fail
        go_roundw
        case rel => exact ⟨k + 1, by omega, by go_num, F5, HT5.out, HI5.out, HS5.out⟩
        case measure => simp [intOf]; omega
    · obtain rfl : k = P := by omega
      go_wp2_with fail
      refine bodyPost_end (results_none rfl _ _ _) rfl ?_
      rw [HMv.out]
      exact ⟨rfl, F', (HTr.out.less (fun j e => .inl e)).mono (by omega), HSr.out⟩
end
end Nd
end Go.Proofs.YtniicgbkeifnjaaGreatDoor
