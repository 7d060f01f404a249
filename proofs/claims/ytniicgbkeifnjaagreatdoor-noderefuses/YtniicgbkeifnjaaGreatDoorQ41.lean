/-
  Contracts and plain facts that the walks lean on (NodeK, WireD, WireE, WireF). Conditions: none but those that each states.
-/
import Derived.Test.YtniicgbkeifnjaaGreatDoorQ40
namespace Go.Proofs.YtniicgbkeifnjaaGreatDoor
open Go.ChangeShapes Go.WideShapes Go.ChangeAt Go.RowKit
set_option linter.unusedVariables false
set_option maxRecDepth 100000
namespace Nd
section
variable {w : World} {F FH FR : Nat → Prop} {B : Lb → Nat} {ph pr m p : Nat} {c : Cfg} {s : St}
theorem host_any (h : NIn w F FH FR B ph pr c s m) :
    Calls Tryz.prog 14 #[.pointer (some ⟨B .p, 0, none⟩)] w fun e w' => e = .returned (.pointer (some ⟨ph, 0, none⟩)) ∧ w' = w := by
  have k8 := h.c8
  clear h
  go_enter Tryz.func14, Tryz.ntmps14
  go_wp2_with fail
  go_ret
  exact ⟨rfl, rfl⟩
theorem rings_any (h : NIn w F FH FR B ph pr c s m) :
    Calls Tryz.prog 41 #[.pointer (some ⟨B .p, 0, none⟩)] w fun e w' => e = .returned (.pointer (some ⟨pr, 0, none⟩)) ∧ w' = w := by
  have k9 := h.c9
  clear h
  go_enter Tryz.func41, Tryz.ntmps41
  go_wp2_with fail
  go_ret
  exact ⟨rfl, rfl⟩
set_option maxHeartbeats 1000000 in
theorem at_any (h : NIn w F FH FR B ph pr c s m) {i l : Nat} (hi : 1 ≤ i) (hi2 : i < c.P) (hl : l < c.L) :
    Calls Tryz.prog 75 #[.pointer (some ⟨B .p, 0, none⟩), .int .i64 i, .int .i64 l] w fun e w' => e = .returned (.agg #[.pointer (some ⟨B (.sq i l), 0, none⟩), .pointer (some ⟨B (.rq i l), 0, none⟩)]) ∧ Below w.heap.size w w' := by
  obtain ⟨pc, _, _, h6⟩ := h.c6
  have k1 := h.c1
  obtain ⟨lc, hrl⟩ := h.rowl i hi hi2
  obtain ⟨z0, z1⟩ := h.lanes i l hi hi2 hl
  have lp := h.foot _ (h.own .p trivial).1
  have lpb := h.lpb
  have llb := h.foot _ (h.own (.lb i) ⟨hi, hi2⟩).1
  obtain ⟨W, hW⟩ : ∃ W, W = w.alloc (.cells #[.pointer none, .pointer none] 150) := ⟨_, rfl⟩
  have HB : Hid (Below w.heap.size w W) := by rw [hW]; exact fresh _ _
  have k6 : W.cell? ⟨B .p, 6, none⟩ = some (.slice (some ⟨B .pb, 0, none⟩) c.P pc) := (HB.out.cell (p := ⟨B .p, 6, none⟩) lp).trans h6
  have kk1 : W.cell? ⟨B .p, 1, none⟩ = some (.int .i64 (c.L : Nat)) := (HB.out.cell (p := ⟨B .p, 1, none⟩) lp).trans k1
  have kr : W.cell? ⟨B .pb, i * 3 + 2, none⟩ = some (.slice (some ⟨B (.lb i), 0, none⟩) c.L lc) := (HB.out.cell (p := ⟨B .pb, i * 3 + 2, none⟩) lpb).trans hrl
  have kz0 : W.cell? ⟨B (.lb i), l * 2, none⟩ = some (.pointer (some ⟨B (.sq i l), 0, none⟩)) := (HB.out.cell (p := ⟨B (.lb i), l * 2, none⟩) llb).trans z0
  have kz1 : W.cell? ⟨B (.lb i), l * 2 + 1, none⟩ = some (.pointer (some ⟨B (.rq i l), 0, none⟩)) := (HB.out.cell (p := ⟨B (.lb i), l * 2 + 1, none⟩) llb).trans z1
  have r0 : W.cell? ⟨w.heap.size, 0, none⟩ = some (.pointer none) := by rw [hW]; simp
  have r1 : W.cell? ⟨w.heap.size, 1, none⟩ = some (.pointer none) := by rw [hW]; simp
  have f0 : W.frozen? ⟨w.heap.size, 0, none⟩ = false := by rw [hW]; simp
  have f1 : W.frozen? ⟨w.heap.size, 1, none⟩ = false := by rw [hW]; simp
  have i1 : ¬ (i : Int) < 1 := by omega
  have i2 : (i : Int) < (c.P : Int) := by omega
  have i3 : ¬ (c.P : Int) ≤ (i : Int) := by omega
  have i4 : ¬ (l : Int) < 0 := by omega
  have i5 : (l : Int) < (c.L : Int) := by omega
  have i6 : ¬ (c.L : Int) ≤ (l : Int) := by omega
  clear h h6 k1 hrl z0 z1 lp lpb llb
  go_enter Tryz.func75, Tryz.ntmps75
  go_upto_region 1 with fail
  rw [← hW]
  clear hW
  go_wp2_with fail
  have HE : Below w.heap.size w ((W.setCell ⟨w.heap.size, 0, none⟩ (.pointer (some ⟨B (.sq i l), 0, none⟩))).setCell ⟨w.heap.size, 1, none⟩ (.pointer (some ⟨B (.rq i l), 0, none⟩))) := (HB.out.setCell (p := ⟨w.heap.size, 0, none⟩) (Nat.le_refl _) _).setCell (p := ⟨w.heap.size, 1, none⟩) (Nat.le_refl _) _
  exact bodyPost_ret (v := .agg #[.pointer (some ⟨B (.sq i l), 0, none⟩), .pointer (some ⟨B (.rq i l), 0, none⟩)]) (by simp [results, Tryz.results75, go_sem, r0, r1]) rfl ⟨rfl, HE⟩
set_option maxHeartbeats 1000000 in
theorem at_none (h : NIn w F FH FR B ph pr c s m) (l : Nat) :
    Calls Tryz.prog 75 #[.pointer (some ⟨B .p, 0, none⟩), .int .i64 0, .int .i64 l] w fun e w' => e = .returned (.agg #[.pointer none, .pointer none]) ∧ Below w.heap.size w w' := by
  obtain ⟨W, hW⟩ : ∃ W, W = w.alloc (.cells #[.pointer none, .pointer none] 150) := ⟨_, rfl⟩
  have HB : Hid (Below w.heap.size w W) := by rw [hW]; exact fresh _ _
  have r0 : W.cell? ⟨w.heap.size, 0, none⟩ = some (.pointer none) := by rw [hW]; simp
  have r1 : W.cell? ⟨w.heap.size, 1, none⟩ = some (.pointer none) := by rw [hW]; simp
  have f0 : W.frozen? ⟨w.heap.size, 0, none⟩ = false := by rw [hW]; simp
  have f1 : W.frozen? ⟨w.heap.size, 1, none⟩ = false := by rw [hW]; simp
  clear h
  go_enter Tryz.func75, Tryz.ntmps75
  go_upto_region 1 with fail
  rw [← hW]
  clear hW
  go_wp2_with fail
  have HE : Below w.heap.size w ((W.setCell ⟨w.heap.size, 0, none⟩ (.pointer none)).setCell ⟨w.heap.size, 1, none⟩ (.pointer none)) := (HB.out.setCell (p := ⟨w.heap.size, 0, none⟩) (Nat.le_refl _) _).setCell (p := ⟨w.heap.size, 1, none⟩) (Nat.le_refl _) _
  exact bodyPost_ret (v := .agg #[.pointer none, .pointer none]) (by simp [results, Tryz.results75, go_sem, r0, r1]) rfl ⟨rfl, HE⟩
theorem sender_any (h : NIn w F FH FR B ph pr c s m) {i l : Nat} (hi : 1 ≤ i) (hi2 : i < c.P) (hl : l < c.L) :
    Calls Tryz.prog 27 #[.pointer (some ⟨B .p, 0, none⟩), .int .i64 i, .int .i64 l] w fun e w' => e = .returned (.pointer (some ⟨B (.sq i l), 0, none⟩)) ∧ Below w.heap.size w w' := by
  have HN : Hid (NIn w F FH FR B ph pr c s m) := h
  have hfd : ∀ w : World, (Instr.field 150 (.agg #[.pointer (some ⟨B (.sq i l), 0, none⟩), .pointer (some ⟨B (.rq i l), 0, none⟩)]) 0).run Tryz.prog w = .ok (.pointer (some ⟨B (.sq i l), 0, none⟩)) w := fun _ => by kernel_rfl
  clear h
  go_enter Tryz.func27, Tryz.ntmps27
  go_wp2_with (go_at_call 75; refine (at_any HN.out hi hi2 hl).mono ?_; rintro e u ⟨rfl, hB⟩; have HB : Hid (Below w.heap.size w u) := hB; clear hB)
  go_ret
  exact ⟨rfl, HB.out⟩
theorem sender_none (h : NIn w F FH FR B ph pr c s m) (l : Nat) :
    Calls Tryz.prog 27 #[.pointer (some ⟨B .p, 0, none⟩), .int .i64 0, .int .i64 l] w fun e w' => e = .returned (.pointer none) ∧ Below w.heap.size w w' := by
  have HN : Hid (NIn w F FH FR B ph pr c s m) := h
  have hfd : ∀ w : World, (Instr.field 150 (.agg #[.pointer none, .pointer none]) 0).run Tryz.prog w = .ok (.pointer none) w := fun _ => by kernel_rfl
  clear h
  go_enter Tryz.func27, Tryz.ntmps27
  go_wp2_with (go_at_call 75; refine (at_none HN.out l).mono ?_; rintro e u ⟨rfl, hB⟩; have HB : Hid (Below w.heap.size w u) := hB; clear hB)
  go_ret
  exact ⟨rfl, HB.out⟩
theorem receiver_any (h : NIn w F FH FR B ph pr c s m) {i l : Nat} (hi : 1 ≤ i) (hi2 : i < c.P) (hl : l < c.L) :
    Calls Tryz.prog 26 #[.pointer (some ⟨B .p, 0, none⟩), .int .i64 i, .int .i64 l] w fun e w' => e = .returned (.pointer (some ⟨B (.rq i l), 0, none⟩)) ∧ Below w.heap.size w w' := by
  have HN : Hid (NIn w F FH FR B ph pr c s m) := h
  have hfd : ∀ w : World, (Instr.field 150 (.agg #[.pointer (some ⟨B (.sq i l), 0, none⟩), .pointer (some ⟨B (.rq i l), 0, none⟩)]) 1).run Tryz.prog w = .ok (.pointer (some ⟨B (.rq i l), 0, none⟩)) w := fun _ => by kernel_rfl
  clear h
  go_enter Tryz.func26, Tryz.ntmps26
  go_wp2_with (go_at_call 75; refine (at_any HN.out hi hi2 hl).mono ?_; rintro e u ⟨rfl, hB⟩; have HB : Hid (Below w.heap.size w u) := hB; clear hB)
  go_ret
  exact ⟨rfl, HB.out⟩
def InjEnd (w : World) (F : Nat → Prop) (p : Nat) (c : Cfg) (s : St) (m : Nat) (z : Int) (e : Ending) (w' : World) : Prop := e = .returned (.int .u16 z) ∧ ∃ F', NAt w' F' p c s m ∧ K.Grows F w F' w'
set_option maxHeartbeats 4000000 in
set_option maxRecDepth 100000 in
theorem inject_any (h : NAt w F p c s m) (x : Pk) (hxb : 0 ≤ x.b ∧ x.b < 4294967296) :
    Calls Tryz.prog 13 #[.pointer (some ⟨p, 0, none⟩), .agg #[.int .i64 x.s, .int .i64 x.d, .int .i64 x.l, .int .u32 x.b]] w (InjEnd w F p c (inj c s x) (m + 1) (injE c s x)) := by
  obtain ⟨FH, FR, B, ph, pr, rfl, hn⟩ := h
  obtain ⟨xs, xd, xl, xb⟩ := x
  simp only at hxb ⊢
  obtain ⟨W, hW⟩ : ∃ W, W = w.alloc (.cells #[.int .i64 xs, .int .i64 xd, .int .i64 xl, .int .u32 xb] 25) := ⟨_, rfl⟩
  have HB : Hid (Below w.heap.size w W) := by rw [hW]; exact fresh _ _
  have HN : Hid (NIn W F FH FR B ph pr c s m) := hn.below HB.out
  obtain ⟨b1, hb1⟩ : ∃ b1, w.heap.size = b1 := ⟨_, rfl⟩
  have hP : PkAt W b1 0 ⟨xs, xd, xl, xb⟩ := by rw [hW, ← hb1]; exact PkAt.new w ⟨xs, xd, xl, xb⟩
  obtain ⟨px0, px1, px2, px3⟩ := hP
  simp only [Nat.zero_add] at px1 px2 px3
  have k0 := HN.out.c0
  have k8 := HN.out.c8
  have hne := Since.any W
  have c0 := fun u : Since W => u.cell k0
  have c8 := fun u : Since W => u.cell k8
  have x0 := fun u : Since W => u.cell px0
  have x1 := fun u : Since W => u.cell px1
  have HNu : Hid (∀ u : Since W, NIn u.w F FH FR B ph pr c s m) := fun u => HN.out.below u.h
  have HXu : Hid (∀ u : Since W, PkAt u.w b1 0 ⟨xs, xd, xl, xb⟩) := fun u => ⟨u.cell px0, u.cell px1, u.cell px2, u.cell px3⟩
  obtain ⟨v, hv⟩ : ∃ v : Int, (c.v : Int) = v := ⟨_, rfl⟩
  have HV : Hid ((c.v : Int) = v) := hv
  rw [hv] at c0
  have HNo : Hid (¬ (xs = v ∧ 0 ≤ xd ∧ xd < (c.N : Int) ∧ xd ≠ v) → inj c s ⟨xs, xd, xl, xb⟩ = s ∧ injE c s ⟨xs, xd, xl, xb⟩ = 1) := by
    intro hh
    unfold inj injE
    simp only [hv]
    rw [if_neg hh, if_neg hh]
    exact ⟨rfl, rfl⟩
  have HYes : Hid ((xs = v ∧ 0 ≤ xd ∧ xd < (c.N : Int) ∧ xd ≠ v) → inj c s ⟨xs, xd, xl, xb⟩ = { s with hL := K.Hst.putL c.L c.q s.hL ⟨xs, xd, xl, xb⟩ } ∧ injE c s ⟨xs, xd, xl, xb⟩ = K.Hst.putE c.L c.q s.hL ⟨xs, xd, xl, xb⟩) := by
    intro hh
    unfold inj injE
    simp only [hv]
    rw [if_pos hh, if_pos hh]
    exact ⟨rfl, rfl⟩
  have HRef : Hid (∀ u : Since W, InjEnd w F (B .p) c s (m + 1) 1 (.returned (.int .u16 1)) u.w) := fun u => ⟨rfl, F, ⟨_, _, _, _, _, rfl, (HNu.out u).mono (Nat.le_succ _)⟩, K.grows_below F (later HB.out u.h)⟩
  clear hn k0 k8 px0 px1 px2 px3 hv
  by_cases h1 : xs = v
  · by_cases h2 : xd = v
    · have e := HNo.out (fun e => e.2.2.2 h2)
      rw [e.1, e.2]
      have b1' : (xs != v) = false := by simp [h1]
      have b2' : (xd == v) = true := by simp [h2]
      clear e h1 h2
      go_enter Tryz.func13, Tryz.ntmps13
      go_upto_region 1 with fail
      rw [← hW]
      clear hW
      refine region_since (u := W) (by kernel_rfl) (by kernel_rfl) (Below.refl _ _) ?_
      repeat (go_big_quiet_step (fail))
      refine wpQuiet_nil ?_
      intro _ hw'
      obtain ⟨nq, hw''⟩ := hw'
      subst hw''
      go_wp2_with fail
      go_ret
      exact HRef.out nq
    · by_cases h3 : 0 ≤ xd ∧ xd < (c.N : Int)
      · have e := HYes.out ⟨h1, h3.1, h3.2, h2⟩
        rw [e.1, e.2]
        have HB3 : Hid ((decide (0 ≤ xd) && decide (xd < (c.N : Int))) = true) := by show _ = _; rw [decide_eq_true h3.1, decide_eq_true h3.2]; rfl
        have H3 : Hid (0 ≤ xd ∧ xd < (c.N : Int)) := h3
        have b1' : (xs != v) = false := by simp [h1]
        have b2' : (xd == v) = false := by simp [h2]
        clear e h1 h2 h3
        go_enter Tryz.func13, Tryz.ntmps13
        go_upto_region 1 with fail
        rw [← hW]
        clear hW
        refine region_since (u := W) (by kernel_rfl) (by kernel_rfl) (Below.refl _ _) ?_
        repeat (go_big_quiet_step (first | (go_at_call 42; exact Since.calls _ ((isnode_any (HNu.out _) xd HB3.out).mono fun e w' ⟨he, hw⟩ => ⟨he, by rw [hw]; exact Below.refl _ _⟩))))
        refine wpQuiet_nil ?_
        intro _ hw'
        obtain ⟨nq, hw''⟩ := hw'
        subst hw''
        have HN2 : Hid (NIn nq.w F FH FR B ph pr c s m) := HNu.out nq
        have HB2 : Hid (Below w.heap.size w nq.w) := later HB.out nq.h
        obtain ⟨y0, y1, y2, y3⟩ := HXu.out nq
        simp only [Nat.zero_add] at y1 y2 y3
        have k8 := HN2.out.c8
        have HPu : Hid (∀ u : World, Below nq.w.heap.size nq.w u → Calls Tryz.prog 43 #[.pointer (some ⟨ph, 0, none⟩), .agg #[.int .i64 xs, .int .i64 xd, .int .i64 xl, .int .u32 xb]] u fun e w' => InjEnd w F (B .p) c { s with hL := K.Hst.putL c.L c.q s.hL ⟨xs, xd, xl, xb⟩ } (m + 1) (K.Hst.putE c.L c.q s.hL ⟨xs, xd, xl, xb⟩) e w' ∧ e = .returned (.int .u16 (K.Hst.putE c.L c.q s.hL ⟨xs, xd, xl, xb⟩))) := by
          intro u hB
          have hN := HN2.out.below hB
          refine (K.hPut_any hN.host ⟨xs, xd, xl, xb⟩ rfl rfl).mono ?_
          rintro e w' ⟨he, F', hv, hg⟩
          obtain ⟨n1, n2⟩ := hN.upHost hg hv (fun y hy => by
            unfold K.Hst.putL at hy
            split at hy
            · rcases List.mem_append.1 hy with hy | hy
              · exact HN2.out.st.hd y hy
              · rw [List.mem_singleton.1 hy]
                exact ⟨H3.out, hxb⟩
            · exact HN2.out.st.hd y hy) (Nat.le_succ_of_le hN.st.gn)
          exact ⟨⟨he, _, ⟨_, _, _, _, _, rfl, n1⟩, (Sans.of_below (later HB2.out hB)).then n2.1, fun j hj => (n2.2 j hj).imp id (fun e => Nat.le_trans (later HB2.out hB).size e)⟩, he⟩
        clear c0 c8 x0 x1 hne
        go_wp2_with fail
        go_region_with (go_at_call 43; refine (HPu.out _ (by first | exact K.drewN_below _ 1 | exact Below.refl _ _)).mono ?_; rintro e v4 ⟨hE4, he4⟩; rw [he4] at hE4; have HE4 : Hid (InjEnd w F (B .p) c { s with hL := K.Hst.putL c.L c.q s.hL ⟨xs, xd, xl, xb⟩ } (m + 1) (K.Hst.putE c.L c.q s.hL ⟨xs, xd, xl, xb⟩) (.returned (.int .u16 (K.Hst.putE c.L c.q s.hL ⟨xs, xd, xl, xb⟩))) v4) := hE4; subst he4; clear hE4)
        all_goals
          go_wp2_with fail
          go_ret
          exact HE4.out
      · have e := HNo.out (fun e => h3 ⟨e.2.1, e.2.2.1⟩)
        rw [e.1, e.2]
        have HB3 : Hid ((decide (0 ≤ xd) && decide (xd < (c.N : Int))) = false) := by
          show _ = _
          rw [Bool.and_eq_false_iff]
          by_cases e : 0 ≤ xd
          · exact .inr (decide_eq_false (fun e2 => h3 ⟨e, e2⟩))
          · exact .inl (decide_eq_false e)
        have b1' : (xs != v) = false := by simp [h1]
        have b2' : (xd == v) = false := by simp [h2]
        clear e h1 h2 h3
        go_enter Tryz.func13, Tryz.ntmps13
        go_upto_region 1 with fail
        rw [← hW]
        clear hW
        refine region_since (u := W) (by kernel_rfl) (by kernel_rfl) (Below.refl _ _) ?_
        repeat (go_big_quiet_step (first | (go_at_call 42; exact Since.calls _ ((isnode_any (HNu.out _) xd HB3.out).mono fun e w' ⟨he, hw⟩ => ⟨he, by rw [hw]; exact Below.refl _ _⟩))))
        refine wpQuiet_nil ?_
        intro _ hw'
        obtain ⟨nq, hw''⟩ := hw'
        subst hw''
        go_wp2_with fail
        go_ret
        exact HRef.out nq
  · have e := HNo.out (fun e => h1 e.1)
    rw [e.1, e.2]
    have b1' : (xs != v) = true := by simp [h1]
    clear e h1
    go_enter Tryz.func13, Tryz.ntmps13
    go_upto_region 1 with fail
    rw [← hW]
    clear hW
    refine region_since (u := W) (by kernel_rfl) (by kernel_rfl) (Below.refl _ _) ?_
    repeat (go_big_quiet_step (fail))
    refine wpQuiet_nil ?_
    intro _ hw'
    obtain ⟨nq, hw''⟩ := hw'
    subst hw''
    go_wp2_with fail
    go_ret
    exact HRef.out nq
end
end Nd
end Go.Proofs.YtniicgbkeifnjaaGreatDoor
namespace Go.Proofs.YtniicgbkeifnjaaGreatDoor
open Go.ChangeShapes Go.WideShapes Go.ChangeAt Go.RowKit
set_option linter.unusedVariables false
set_option maxRecDepth 100000
theorem or_add (a b k : Nat) (hb : b < 2 ^ k) : (a * 2 ^ k) ||| b = a * 2 ^ k + b := by
  rw [← Nat.shiftLeft_eq]; exact (Nat.shiftLeft_add_eq_or_of_lt hb a).symm
theorem or16 (c d : Nat) (hc : c < 256) (hd : d < 256) : bits .or .u16 ((c : Int) * 256) (d : Int) = ((c * 256 + d : Nat) : Int) := by
  rw [show (c : Int) * 256 = ((c * 256 : Nat) : Int) by omega, u16_or_nat _ _ (by omega) (by omega), ← or_add c d 8 hd]
theorem or32 (c d : Nat) (hc : c < 65536) (hd : d < 65536) : bits .or .u32 ((c : Int) * 65536) (d : Int) = ((c * 65536 + d : Nat) : Int) := by
  rw [show (c : Int) * 65536 = ((c * 65536 : Nat) : Int) by omega, u32_or_nat _ _ (by omega) (by omega), ← or_add c d 16 hd]
set_option maxHeartbeats 400000 in
theorem read16_any (b off len cap c d : Nat) (hl : 2 ≤ len) (hm : len ≤ 1000) (hc : c < 256) (hd : d < 256) (w : World) (c0 : w.cell? ⟨b, off, none⟩ = some (.int .u8 c)) (c1 : w.cell? ⟨b, off + 1, none⟩ = some (.int .u8 d)) :
    Calls Tryz.prog 190 #[.slice (some ⟨b, off, none⟩) len cap] w fun e w' => e = .returned (.int .u16 (c * 256 + d : Nat)) ∧ ∃ n, w' = w.drewN n := by
  have HX : Hid (bits .or .u16 ((c : Int) * 256) (d : Int) = ((c * 256 + d : Nat) : Int)) := or16 c d hc hd
  have i0 : (0 : Int) < len := by omega
  have i1 : (1 : Int) < len := by omega
  go_enter Tryz.func190, Tryz.ntmps190
  go_wp2_with fail
  go_quiet (fail)
  go_wp2_with fail
  go_ret
  exact ⟨ret_int HX.out, nq, rfl⟩
set_option maxHeartbeats 400000 in
theorem read32_any (b off len cap c0 c1 c2 c3 : Nat) (hl : 4 ≤ len) (hlc : len ≤ cap) (hm : cap ≤ 9223372036854775807) (hm2 : len ≤ 1000) (h0 : c0 < 256) (h1 : c1 < 256) (h2 : c2 < 256) (h3 : c3 < 256) (w : World)
    (f0 : w.cell? ⟨b, off, none⟩ = some (.int .u8 c0)) (f1 : w.cell? ⟨b, off + 1, none⟩ = some (.int .u8 c1)) (f2 : w.cell? ⟨b, off + 2, none⟩ = some (.int .u8 c2)) (f3 : w.cell? ⟨b, off + 2 + 1, none⟩ = some (.int .u8 c3)) :
    Calls Tryz.prog 191 #[.slice (some ⟨b, off, none⟩) len cap] w fun e w' => e = .returned (.int .u32 ((c0 * 256 + c1) * 65536 + (c2 * 256 + c3) : Nat)) ∧ ∃ n, w' = w.drewN n := by
  have HX : Hid (bits .or .u32 (((c0 * 256 + c1 : Nat) : Int) * 65536) ((c2 * 256 + c3 : Nat) : Int) = (((c0 * 256 + c1) * 65536 + (c2 * 256 + c3) : Nat) : Int)) := or32 _ _ (by omega) (by omega)
  have i2 : (2 : Int) ≤ len := by omega
  have i3 : (len : Int) ≤ cap := by omega
  go_enter Tryz.func191, Tryz.ntmps191
  go_wp2_with fail
  go_quiet (first
    | (go_at_call_of 190 (Value.slice (some ⟨b, off, none⟩) len cap); exact Calls.quiet_of (read16_any b off len cap c0 c1 (by omega) (by omega) h0 h1 _ (by simpa using f0) (by simpa using f1)))
    | (go_at_call 190; exact Calls.quiet_of (read16_any b (off + 2) (len - 2) _ c2 c3 (by omega) (by omega) h2 h3 _ (by simpa using f2) (by simpa using f3))))
  go_wp2_with fail
  go_ret
  exact ⟨ret_int HX.out, nq, rfl⟩
end Go.Proofs.YtniicgbkeifnjaaGreatDoor
namespace Go.Proofs.YtniicgbkeifnjaaGreatDoor
open Go.ChangeShapes Go.WideShapes Go.ChangeAt Go.RowKit
set_option linter.unusedVariables false
set_option maxRecDepth 100000
theorem Below.drewN' {B : Nat} {a w : World} (h : Below B a w) (n : Nat) : Below B a (w.drewN n) := ⟨h.os, h.tape, h.output, h.size, h.block⟩
theorem kept {w W : World} (h : Below w.heap.size w W) {b : Nat} (hb : b < w.heap.size) {o : Nat} {v : Option Value} (hv : w.cell? ⟨b, o, none⟩ = v) : W.cell? ⟨b, o, none⟩ = v := (h.cell (p := ⟨b, o, none⟩) hb).trans hv
set_option maxHeartbeats 1000000 in
theorem read_short (b off len cap : Nat) (l : List Nat) (w : World) (ho : Octs w (some ⟨b, off, none⟩) len l) (hl : 4 ≤ len) (hlc : len ≤ cap) (hm : cap ≤ 9223372036854775807) (hm2 : len ≤ 1000) (hk : l.getD 0 0 ≠ 1) :
    Calls Tryz.prog 135 #[.slice (some ⟨b, off, none⟩) len cap] w fun e w' => e = .returned (fr (Wire.rd false l)) ∧ Below w.heap.size w w' := by
  have hlt : b < w.heap.size := by
    rcases ho.2.2.2 with h | ⟨b', off', e, h, _⟩
    · omega
    · cases e; exact h
  have cf : ∀ i, i < len → w.cell? ⟨b, off + i, none⟩ = some (.int .u8 (l.getD i 0 : Nat)) := by
    rcases ho.2.2.2 with h | ⟨b', off', e, h, hc⟩
    · omega
    · cases e; exact hc
  have g : ∀ i, l.getD i 0 < 256 := fun i => Oct_getD ho.2.2.1 i
  have f0 := cf 0 (by omega)
  have f1 := cf 1 (by omega)
  have f2 := cf 2 (by omega)
  have f3 := cf 3 (by omega)
  rw [Nat.add_zero] at f0
  have g0 := g 0; have g1 := g 1; have g2 := g 2; have g3 := g 3
  have HE : Hid (fr (Wire.rd false l) = .agg #[.int .u8 (l.getD 0 0 : Nat), .int .u8 (l.getD 1 0 : Nat), .int .u16 (l.getD 2 0 * 256 + l.getD 3 0 : Nat), .int .u8 0, .int .u8 0, .int .u32 0]) := rfl
  clear cf g ho
  obtain ⟨c0, hc0⟩ : ∃ c, c = l.getD 0 0 := ⟨_, rfl⟩
  obtain ⟨c1, hc1⟩ : ∃ c, c = l.getD 1 0 := ⟨_, rfl⟩
  obtain ⟨c2, hc2⟩ : ∃ c, c = l.getD 2 0 := ⟨_, rfl⟩
  obtain ⟨c3, hc3⟩ : ∃ c, c = l.getD 3 0 := ⟨_, rfl⟩
  rw [← hc0, ← hc1, ← hc2, ← hc3] at HE
  rw [← hc0] at f0 g0 hk
  rw [← hc1] at f1 g1
  rw [← hc2] at f2 g2
  rw [← hc3] at f3 g3
  clear hc0 hc1 hc2 hc3
  rw [HE.out]
  have hkb : ((c0 : Int) == 1) = false := by simp; omega
  have i2 : (2 : Int) ≤ len := by omega
  have i3 : (len : Int) ≤ cap := by omega
  clear hk
  have hd1 : ∀ (W : World) (n : Nat) (a : Addr) (v : Value), (W.drewN n).setCell a v = (W.setCell a v).drewN n := fun _ _ _ _ => rfl
  have hd2 : ∀ (W : World) (n : Nat) (o : Obj), (W.drewN n).alloc o = (W.alloc o).drewN n := fun _ _ _ => rfl
  have n0 : ¬ b = w.heap.size := by omega
  have n1 : ¬ b = w.heap.size + 1 := by omega
  have j0 : 0 < len := by omega
  have hc2 : ¬ cap = 2 := by omega
  have k1 : (1 : Int) < len := by omega
  go_enter Tryz.func135, Tryz.ntmps135
  go_wp2_with fail
  go_region_held3 (fun w' => w'.cell? ⟨b, off, none⟩ = some (.int .u8 (c0 : Nat)) ∧ w'.cell? ⟨b, off + 1, none⟩ = some (.int .u8 (c1 : Nat))) (first | go_keep | (exact ⟨kept (by repeat' (first | (with_reducible exact Below.refl _ _) | (with_reducible refine Below.setCell ?_ ?_ _) | (with_reducible refine Below.drewN' ?_ _) | (with_reducible refine Below.drew ?_) | (with_reducible refine Below.alloc ?_ ?_ _) | (simp; done))) hlt f0, kept (by repeat' (first | (with_reducible exact Below.refl _ _) | (with_reducible refine Below.setCell ?_ ?_ _) | (with_reducible refine Below.drewN' ?_ _) | (with_reducible refine Below.drew ?_) | (with_reducible refine Below.alloc ?_ ?_ _) | (simp; done))) hlt f1⟩)) (first | (go_at_call 190; refine (read16_any b (off + 2) (len - 2) _ c2 c3 (by omega) (by omega) g2 g3 _ ?_ ?_).mono ?_; (exact kept (by repeat' (first | (with_reducible exact Below.refl _ _) | (with_reducible refine Below.setCell ?_ ?_ _) | (with_reducible refine Below.drewN' ?_ _) | (with_reducible refine Below.drew ?_) | (with_reducible refine Below.alloc ?_ ?_ _) | (simp; done))) hlt f2); (exact kept (by repeat' (first | (with_reducible exact Below.refl _ _) | (with_reducible refine Below.setCell ?_ ?_ _) | (with_reducible refine Below.drewN' ?_ _) | (with_reducible refine Below.drew ?_) | (with_reducible refine Below.alloc ?_ ?_ _) | (simp; done))) hlt f3); rintro e w' ⟨rfl, n, rfl⟩))
  all_goals go_wp2_with fail
  all_goals exact bodyPost_ret (v := .agg #[.int .u8 (c0 : Nat), .int .u8 (c1 : Nat), .int .u16 (c2 * 256 + c3 : Nat), .int .u8 0, .int .u8 0, .int .u32 0]) (by simp [results, Tryz.results135, go_sem]) rfl ⟨rfl, (by repeat' (first | (with_reducible exact Below.refl _ _) | (with_reducible refine Below.setCell ?_ ?_ _) | (with_reducible refine Below.drewN' ?_ _) | (with_reducible refine Below.drew ?_) | (with_reducible refine Below.alloc ?_ ?_ _) | (simp; done)))⟩
set_option maxHeartbeats 1000000 in
theorem read_data (b off len cap : Nat) (l : List Nat) (w : World) (ho : Octs w (some ⟨b, off, none⟩) len l) (hl : 10 ≤ len) (hlc : len ≤ cap) (hm : cap ≤ 9223372036854775807) (hm2 : len ≤ 1000) (hk : l.getD 0 0 = 1) :
    Calls Tryz.prog 135 #[.slice (some ⟨b, off, none⟩) len cap] w fun e w' => e = .returned (fr (Wire.rd true l)) ∧ Below w.heap.size w w' := by
  have hlt : b < w.heap.size := by
    rcases ho.2.2.2 with h | ⟨b', off', e, h, _⟩
    · omega
    · cases e; exact h
  have cf : ∀ i, i < len → w.cell? ⟨b, off + i, none⟩ = some (.int .u8 (l.getD i 0 : Nat)) := by
    rcases ho.2.2.2 with h | ⟨b', off', e, h, hc⟩
    · omega
    · cases e; exact hc
  have g : ∀ i, l.getD i 0 < 256 := fun i => Oct_getD ho.2.2.1 i
  have f0 := cf 0 (by omega)
  have f1 := cf 1 (by omega)
  have f2 := cf 2 (by omega)
  have f3 := cf 3 (by omega)
  have f4 := cf 4 (by omega)
  have f5 := cf 5 (by omega)
  have f6 := cf 6 (by omega)
  have f7 := cf 7 (by omega)
  have f8 := cf 8 (by omega)
  have f9 := cf 9 (by omega)
  rw [Nat.add_zero] at f0
  have g0 := g 0; have g1 := g 1; have g2 := g 2; have g3 := g 3; have g4 := g 4; have g5 := g 5; have g6 := g 6; have g7 := g 7; have g8 := g 8; have g9 := g 9
  have HE : Hid (fr (Wire.rd true l) = .agg #[.int .u8 (l.getD 0 0 : Nat), .int .u8 (l.getD 1 0 : Nat), .int .u16 (l.getD 2 0 * 256 + l.getD 3 0 : Nat), .int .u8 (l.getD 4 0 : Nat), .int .u8 (l.getD 5 0 : Nat), .int .u32 (l.getD 6 0 * 16777216 + l.getD 7 0 * 65536 + l.getD 8 0 * 256 + l.getD 9 0 : Nat)]) := rfl
  clear cf g ho
  obtain ⟨c0, hc0⟩ : ∃ c, c = l.getD 0 0 := ⟨_, rfl⟩
  obtain ⟨c1, hc1⟩ : ∃ c, c = l.getD 1 0 := ⟨_, rfl⟩
  obtain ⟨c2, hc2⟩ : ∃ c, c = l.getD 2 0 := ⟨_, rfl⟩
  obtain ⟨c3, hc3⟩ : ∃ c, c = l.getD 3 0 := ⟨_, rfl⟩
  obtain ⟨c4, hc4⟩ : ∃ c, c = l.getD 4 0 := ⟨_, rfl⟩
  obtain ⟨c5, hc5⟩ : ∃ c, c = l.getD 5 0 := ⟨_, rfl⟩
  obtain ⟨c6, hc6⟩ : ∃ c, c = l.getD 6 0 := ⟨_, rfl⟩
  obtain ⟨c7, hc7⟩ : ∃ c, c = l.getD 7 0 := ⟨_, rfl⟩
  obtain ⟨c8, hc8⟩ : ∃ c, c = l.getD 8 0 := ⟨_, rfl⟩
  obtain ⟨c9, hc9⟩ : ∃ c, c = l.getD 9 0 := ⟨_, rfl⟩
  rw [← hc0, ← hc1, ← hc2, ← hc3, ← hc4, ← hc5, ← hc6, ← hc7, ← hc8, ← hc9] at HE
  rw [← hc0] at f0 g0 hk
  rw [← hc1] at f1 g1
  rw [← hc2] at f2 g2
  rw [← hc3] at f3 g3
  rw [← hc4] at f4 g4
  rw [← hc5] at f5 g5
  rw [← hc6] at f6 g6
  rw [← hc7] at f7 g7
  rw [← hc8] at f8 g8
  rw [← hc9] at f9 g9
  clear hc0 hc1 hc2 hc3 hc4 hc5 hc6 hc7 hc8 hc9
  rw [show c6 * 16777216 + c7 * 65536 + c8 * 256 + c9 = (c6 * 256 + c7) * 65536 + (c8 * 256 + c9) by omega] at HE
  rw [HE.out]
  have hkb : ((c0 : Int) == 1) = true := by rw [hk]; rfl
  have i2 : (2 : Int) ≤ len := by omega
  have i3 : (len : Int) ≤ cap := by omega
  have i6 : (6 : Int) ≤ len := by omega
  have hc6 : ¬ cap = 6 := by omega
  have k4 : (4 : Int) < len := by omega
  have k5 : (5 : Int) < len := by omega
  clear hk
  have hd1 : ∀ (W : World) (n : Nat) (a : Addr) (v : Value), (W.drewN n).setCell a v = (W.setCell a v).drewN n := fun _ _ _ _ => rfl
  have hd2 : ∀ (W : World) (n : Nat) (o : Obj), (W.drewN n).alloc o = (W.alloc o).drewN n := fun _ _ _ => rfl
  have n0 : ¬ b = w.heap.size := by omega
  have n1 : ¬ b = w.heap.size + 1 := by omega
  have j0 : 0 < len := by omega
  have hc2 : ¬ cap = 2 := by omega
  have k1 : (1 : Int) < len := by omega
  go_enter Tryz.func135, Tryz.ntmps135
  go_wp2_with fail
  go_region_held3 (fun w' => w'.cell? ⟨b, off, none⟩ = some (.int .u8 (c0 : Nat)) ∧ w'.cell? ⟨b, off + 1, none⟩ = some (.int .u8 (c1 : Nat))) (first | go_keep | (exact ⟨kept (by repeat' (first | (with_reducible exact Below.refl _ _) | (with_reducible refine Below.setCell ?_ ?_ _) | (with_reducible refine Below.drewN' ?_ _) | (with_reducible refine Below.drew ?_) | (with_reducible refine Below.alloc ?_ ?_ _) | (simp; done))) hlt f0, kept (by repeat' (first | (with_reducible exact Below.refl _ _) | (with_reducible refine Below.setCell ?_ ?_ _) | (with_reducible refine Below.drewN' ?_ _) | (with_reducible refine Below.drew ?_) | (with_reducible refine Below.alloc ?_ ?_ _) | (simp; done))) hlt f1⟩)) (first | (go_at_call 190; refine (read16_any b (off + 2) (len - 2) _ c2 c3 (by omega) (by omega) g2 g3 _ ?_ ?_).mono ?_; (exact kept (by repeat' (first | (with_reducible exact Below.refl _ _) | (with_reducible refine Below.setCell ?_ ?_ _) | (with_reducible refine Below.drewN' ?_ _) | (with_reducible refine Below.drew ?_) | (with_reducible refine Below.alloc ?_ ?_ _) | (simp; done))) hlt f2); (exact kept (by repeat' (first | (with_reducible exact Below.refl _ _) | (with_reducible refine Below.setCell ?_ ?_ _) | (with_reducible refine Below.drewN' ?_ _) | (with_reducible refine Below.drew ?_) | (with_reducible refine Below.alloc ?_ ?_ _) | (simp; done))) hlt f3); rintro e w' ⟨rfl, n, rfl⟩))
  all_goals go_wp2_with fail
  all_goals go_region_held3 (fun w' => w'.cell? ⟨b, off + 4, none⟩ = some (.int .u8 (c4 : Nat)) ∧ w'.cell? ⟨b, off + 5, none⟩ = some (.int .u8 (c5 : Nat))) (first | (exact ⟨kept (by repeat' (first | (with_reducible exact Below.refl _ _) | (with_reducible refine Below.setCell ?_ ?_ _) | (with_reducible refine Below.drewN' ?_ _) | (with_reducible refine Below.drew ?_) | (with_reducible refine Below.alloc ?_ ?_ _) | (simp; done))) hlt f4, kept (by repeat' (first | (with_reducible exact Below.refl _ _) | (with_reducible refine Below.setCell ?_ ?_ _) | (with_reducible refine Below.drewN' ?_ _) | (with_reducible refine Below.drew ?_) | (with_reducible refine Below.alloc ?_ ?_ _) | (simp; done))) hlt f5⟩)) (fail)
  all_goals
    go_wp2_with fail
    refine (read32_any b (off + 6) (len - 6) (cap - 6) c6 c7 c8 c9 (by omega) (by omega) (by omega) (by omega) g6 g7 g8 g9 _ ?_ ?_ ?_ ?_).mono ?_
    · exact kept (by repeat' (first | (with_reducible exact Below.refl _ _) | (with_reducible refine Below.setCell ?_ ?_ _) | (with_reducible refine Below.drewN' ?_ _) | (with_reducible refine Below.drew ?_) | (with_reducible refine Below.alloc ?_ ?_ _) | (simp; done))) hlt f6
    · exact kept (by repeat' (first | (with_reducible exact Below.refl _ _) | (with_reducible refine Below.setCell ?_ ?_ _) | (with_reducible refine Below.drewN' ?_ _) | (with_reducible refine Below.drew ?_) | (with_reducible refine Below.alloc ?_ ?_ _) | (simp; done))) hlt f7
    · exact kept (by repeat' (first | (with_reducible exact Below.refl _ _) | (with_reducible refine Below.setCell ?_ ?_ _) | (with_reducible refine Below.drewN' ?_ _) | (with_reducible refine Below.drew ?_) | (with_reducible refine Below.alloc ?_ ?_ _) | (simp; done))) hlt f8
    · exact kept (by repeat' (first | (with_reducible exact Below.refl _ _) | (with_reducible refine Below.setCell ?_ ?_ _) | (with_reducible refine Below.drewN' ?_ _) | (with_reducible refine Below.drew ?_) | (with_reducible refine Below.alloc ?_ ?_ _) | (simp; done))) hlt f9
    rintro e w' ⟨rfl, n2, rfl⟩
    go_wp2_with fail
    exact bodyPost_ret (v := .agg #[.int .u8 (c0 : Nat), .int .u8 (c1 : Nat), .int .u16 (c2 * 256 + c3 : Nat), .int .u8 (c4 : Nat), .int .u8 (c5 : Nat), .int .u32 ((c6 * 256 + c7) * 65536 + (c8 * 256 + c9) : Nat)]) (by simp [results, Tryz.results135, go_sem]) rfl ⟨rfl, (by repeat' (first | (with_reducible exact Below.refl _ _) | (with_reducible refine Below.setCell ?_ ?_ _) | (with_reducible refine Below.drewN' ?_ _) | (with_reducible refine Below.drew ?_) | (with_reducible refine Below.alloc ?_ ?_ _) | (simp; done)))⟩
end Go.Proofs.YtniicgbkeifnjaaGreatDoor
namespace Go.Proofs.YtniicgbkeifnjaaGreatDoor
open Go.ChangeShapes Go.WideShapes Go.ChangeAt Go.RowKit
set_option linter.unusedVariables false
set_option maxRecDepth 100000
theorem ofNat_inj {a b : Nat} (ha : a < 256) (hb : b < 256) (h : UInt8.ofNat a = UInt8.ofNat b) : a = b := by
  have := congrArg UInt8.toNat h
  simp at this
  omega
theorem map_inj : ∀ {l m : List Nat}, Crc.Oct l → Crc.Oct m → l.map UInt8.ofNat = m.map UInt8.ofNat → l = m := by
  intro l
  induction l with
  | nil => intro m _ _ h; cases m with
    | nil => rfl
    | cons => cases h
  | cons c l ih =>
    intro m hl hm h
    cases m with
    | nil => cases h
    | cons d m =>
      simp only [List.map_cons, List.cons.injEq] at h
      rw [ofNat_inj hl.head hm.head h.1, ih hl.tail hm.tail h.2]
theorem strOf_list (l : List Nat) : (strOf l).toList = l.map UInt8.ofNat := by unfold strOf; simp
theorem str_beq {l m : List Nat} (hl : Crc.Oct l) (hm : Crc.Oct m) : ((strOf l).toList == (strOf m).toList) = decide (l = m) := by
  rw [strOf_list, strOf_list]
  by_cases h : l = m
  · subst h; simp
  · have : ¬ l.map UInt8.ofNat = m.map UInt8.ofNat := fun e => h (map_inj hl hm e)
    simp only [h, decide_false, beq_eq_false_iff_ne, ne_eq, this, not_false_eq_true]
set_option maxHeartbeats 400000 in
theorem equal_any (a1 a2 : Option Addr) (n1 c1 n2 c2 : Nat) (l1 l2 : List Nat) (w : World) (h1 : Octs w a1 n1 l1) (h2 : Octs w a2 n2 l2) :
    Calls Tryz.prog 134 #[.slice a1 n1 c1, .slice a2 n2 c2] w fun e w' => e = .returned (.bool (decide (l1 = l2))) ∧ w' = w := by
  have k1 : (convert 22 9 (.slice a1 n1 c1)).run Tryz.prog w = .ok (.string (strOf l1)) w := str_run h1
  have k2 : (convert 22 9 (.slice a2 n2 c2)).run Tryz.prog w = .ok (.string (strOf l2)) w := str_run h2
  have HE : Hid (((strOf l1).toList == (strOf l2).toList) = decide (l1 = l2)) := str_beq h1.2.2.1 h2.2.2.1
  clear h1 h2
  go_enter Tryz.func134, Tryz.ntmps134
  go_wp2_with fail
  go_ret
  exact ⟨ret_bool HE.out, rfl⟩
theorem equal_is (a1 a2 : Option Addr) (n1 c1 n2 c2 : Nat) (l1 l2 : List Nat) (w : World) (h1 : Octs w a1 n1 l1) (h2 : Octs w a2 n2 l2) (b : Bool) (hb : decide (l1 = l2) = b) :
    Calls Tryz.prog 134 #[.slice a1 n1 c1, .slice a2 n2 c2] w fun e w' => e = .returned (.bool b) ∧ w' = w := by
  subst hb; exact equal_any a1 a2 n1 c1 n2 c2 l1 l2 w h1 h2
def decVal (k : IntKind) (l : List Nat) : Value := match Wire.dec l with
  | some f => .tuple #[fr f, .int k 0]
  | none => .tuple #[fr Wire.zero, .int k 30]
theorem bad_val {k : IntKind} {l : List Nat} (h : Wire.dec l = none) : decVal k l = .tuple #[.agg #[.int .u8 0, .int .u8 0, .int .u16 0, .int .u8 0, .int .u8 0, .int .u32 0], .int k 30] := by
  unfold decVal; rw [h]; rfl
theorem good_val {k : IntKind} {l : List Nat} {f : Wire.Fr} (h : Wire.dec l = some f) : decVal k l = .tuple #[fr f, .int k 0] := by
  unfold decVal; rw [h]
set_option maxHeartbeats 1000000 in
theorem dec_empty (a : Option Addr) (cap : Nat) (w : World) :
    Calls Tryz.prog 80 #[.slice a (0 : Nat) cap] w fun e w' => e = .returned (decVal .u16 []) ∧ Below w.heap.size w w' := by
  rw [bad_val (k := .u16) Wire.dec_nil]
  go_enter Tryz.func80, Tryz.ntmps80
  go_wp2_with fail
  exact bodyPost_ret (v := .tuple #[.agg #[.int .u8 0, .int .u8 0, .int .u16 0, .int .u8 0, .int .u8 0, .int .u32 0], .int .u16 30]) (by simp [results, Tryz.results80, go_sem]) rfl ⟨rfl, (by repeat' (first | (with_reducible exact Below.refl _ _) | (with_reducible refine Below.setCell ?_ ?_ _) | (with_reducible refine Below.drewN' ?_ _) | (with_reducible refine Below.drew ?_) | (with_reducible refine Below.alloc ?_ ?_ _) | (simp; done)))⟩
set_option maxHeartbeats 1000000 in
theorem dec_size (b off len cap : Nat) (l : List Nat) (w : World) (ho : Octs w (some ⟨b, off, none⟩) len l) (hp : 0 < len) (hm : len ≤ 9223372036854775807) (hn : Wire.fits l = false) :
    Calls Tryz.prog 80 #[.slice (some ⟨b, off, none⟩) len cap] w fun e w' => e = .returned (decVal .u16 l) ∧ Below w.heap.size w w' := by
  have hlt : b < w.heap.size := by
    rcases ho.2.2.2 with h | ⟨b', off', e, h, _⟩
    · omega
    · cases e; exact h
  have f0 : w.cell? ⟨b, off, none⟩ = some (.int .u8 (l.getD 0 0 : Nat)) := by
    rcases ho.2.2.2 with h | ⟨b', off', e, h, hc⟩
    · omega
    · cases e; exact hc 0 (by omega)
  have g0 : l.getD 0 0 < 256 := Oct_getD ho.2.2.1 0
  have hs : ¬ (len : Int) = ((Wire.sizeOf (l.getD 0 0) : Nat) : Int) := by
    unfold Wire.fits at hn
    have := of_decide_eq_false hn
    have hl := ho.1
    omega
  rw [bad_val (k := .u16) (l := l) (by unfold Wire.dec; rw [hn]; rfl)]
  obtain ⟨c0, hc0⟩ : ∃ c, c = l.getD 0 0 := ⟨_, rfl⟩
  rw [← hc0] at f0 g0 hs
  clear hc0 ho hn
  obtain ⟨sz, hsz⟩ : ∃ s, s = Wire.sizeOf c0 := ⟨_, rfl⟩
  rw [← hsz] at hs
  have HZ : Hid (sz = Wire.sizeOf c0) := hsz
  clear hsz
  have hz : ((len : Int) == 0) = false := by simp; omega
  have hb : ((len : Int) != (sz : Int)) = true := by simp; omega
  have j0 : (0 : Int) < len := by omega
  go_enter Tryz.func80, Tryz.ntmps80
  go_wp2_with (go_at_call 100; refine (size_is c0 g0 sz (by rw [HZ.out]) _).mono ?_; rintro e w' ⟨rfl, rfl⟩)
  exact bodyPost_ret (v := .tuple #[.agg #[.int .u8 0, .int .u8 0, .int .u16 0, .int .u8 0, .int .u8 0, .int .u32 0], .int .u16 30]) (by simp [results, Tryz.results80, go_sem]) rfl ⟨rfl, (by repeat' (first | (with_reducible exact Below.refl _ _) | (with_reducible refine Below.setCell ?_ ?_ _) | (with_reducible refine Below.drewN' ?_ _) | (with_reducible refine Below.drew ?_) | (with_reducible refine Below.alloc ?_ ?_ _) | (simp; done)))⟩
end Go.Proofs.YtniicgbkeifnjaaGreatDoor
