/-
  Contracts and plain facts that the walks lean on (NodeN, NodeX, NodeYa, NodeInj, NodeOne, NodeRef). Conditions: none but those that each states.
-/
import Derived.Test.YtniicgbkeifnjaaGreatDoorQ42
import Derived.Test.YtniicgbkeifnjaaGreatDoorQ37
namespace Go.Proofs.YtniicgbkeifnjaaGreatDoor
open Go.ChangeShapes Go.WideShapes Go.ChangeAt Go.RowKit
set_option linter.unusedVariables false
set_option maxRecDepth 100000
namespace Nd
theorem take_bad {c : Cfg} {s : St} {u : Int} {l : List Nat} (h : port c u ≠ 0) (hd : Wire.dec l = none) : take c s u l = s ∧ takeE c s u l = 30 := by
  unfold take takeE
  rw [if_neg h, if_neg h, hd]
  exact ⟨rfl, rfl⟩
theorem take_lane {c : Cfg} {s : St} {u : Int} {l : List Nat} {f : Wire.Fr} (h : port c u ≠ 0) (hd : Wire.dec l = some f) (hl : ¬ f.l < c.L) : take c s u l = s ∧ takeE c s u l = 30 := by
  unfold take takeE
  rw [if_neg h, if_neg h, hd]
  simp only [if_neg hl]
  exact ⟨trivial, trivial⟩
theorem take_frame {c : Cfg} {s : St} {u : Int} {l : List Nat} {f : Wire.Fr} (h : port c u ≠ 0) (hd : Wire.dec l = some f) (hl : f.l < c.L) : take c s u l = frame c s (port c u) f ∧ takeE c s u l = frameE c s (port c u) f := by
  unfold take takeE
  rw [if_neg h, if_neg h, hd]
  simp only [if_pos hl]
  exact ⟨trivial, trivial⟩
section
variable {w : World} {F FH FR : Nat → Prop} {B : Lb → Nat} {ph pr m p : Nat} {c : Cfg} {s : St}
theorem InjEnd.later {w u : World} {F : Nat → Prop} {p m m' : Nat} {c : Cfg} {s : St} {z : Int} {e : Ending} {w' : World} (hB : Below w.heap.size w u) (h : InjEnd u F p c s m z e w') (hm : m ≤ m') : InjEnd w F p c s m' z e w' := by
  obtain ⟨he, F', hn, hg⟩ := h
  exact ⟨he, F', hn.mono hm, (Sans.of_below hB).then hg.1, fun j hj => (hg.2 j hj).imp id (fun e => Nat.le_trans hB.size e)⟩
theorem hearS (h : NIn w F FH FR B ph pr c s m) (hm : m ≤ 90000) {i l : Nat} (hi : 1 ≤ i) (hi2 : i < c.P) (hl : l < c.L) (x : Int) (hx : 0 ≤ x ∧ x ≤ 65535) :
    Calls Tryz.prog 81 #[.pointer (some ⟨B (.sq i l), 0, none⟩), .int .u16 x] w fun e w' => AnyB e ∧ InjEnd w F (B .p) c { s with s := up2 s.s i l (sHear (s.s i l) x) } (m + 1) 0 (.returned (.int .u16 0)) w' := by
  have hb := h.st.sn i l hi hi2 hl
  refine (Cr.shear_any (h.snd i l hi hi2 hl) x hx (by omega)).mono ?_
  rintro e w' ⟨he, hv, hs⟩
  have n1 := h.upSnd (v := sHear (s.s i l) x) hi hi2 hl hs hv (by rw [sHear_one]; omega)
  have hF := (h.own (.sq i l) ⟨hi, hi2, hl⟩).1
  exact ⟨he, rfl, F, ⟨_, _, _, _, _, rfl, n1⟩, hs.mono (fun j e => by rw [e]; exact hF), fun j hj => .inl hj⟩
theorem hearR (h : NIn w F FH FR B ph pr c s m) (hm : m ≤ 90000) {i l : Nat} (hi : 1 ≤ i) (hi2 : i < c.P) (hl : l < c.L) (x : Int) (hx : 0 ≤ x ∧ x ≤ 65535) :
    Calls Tryz.prog 82 #[.pointer (some ⟨B (.rq i l), 0, none⟩), .int .u16 x] w fun e w' => AnyB e ∧ InjEnd w F (B .p) c { s with r := up2 s.r i l (rHear c.room (s.r i l) x) } (m + 1) 0 (.returned (.int .u16 0)) w' := by
  have hb := h.st.rn i l hi hi2 hl
  have hr := h.rcv i l hi hi2 hl
  have h0 := hr.h0
  have hr8 := h.cfg.room8
  refine (nhear_any (R := c.room) hr (by omega) x hx).mono ?_
  rintro e w' ⟨he, hv, hs⟩
  have n1 := h.upRcv (v := rHear c.room (s.r i l) x) hi hi2 hl hs hv (by have := rHear_le (R := c.room) (q := s.r i l) (x := x) h0 (by omega); omega)
  have hF := (h.own (.rq i l) ⟨hi, hi2, hl⟩).1
  exact ⟨he, rfl, F, ⟨_, _, _, _, _, rfl, n1⟩, hs.mono (fun j e => by rw [e]; exact hF), fun j hj => .inl hj⟩
set_option maxHeartbeats 8000000 in
set_option maxRecDepth 100000 in
theorem take_any (h : NAt w F p c s m) (hm : m ≤ 80000) (u : Int) {a : Option Addr} {n cp : Nat} {l : List Nat} (ho : Octs w a n l) (hncp : n ≤ cp) (hcp : cp ≤ 9223372036854775807) :
    Calls Tryz.prog 32 #[.pointer (some ⟨p, 0, none⟩), .int .i64 u, .slice a n cp] w (InjEnd w F p c (take c s u l) (m + 3) (takeE c s u l)) := by
  obtain ⟨FH, FR, B, ph, pr, rfl, hn⟩ := h
  have HN : Hid (NIn w F FH FR B ph pr c s m) := hn
  have HO : Hid (Octs w a n l) := ho
  have hP := hn.cfg.P6
  have hL := hn.cfg.L3
  obtain ⟨k, hk⟩ : ∃ k, port c u = k := ⟨_, rfl⟩
  have HK : Hid (port c u = k) := hk
  have hkP : k < c.P := by rw [← hk]; exact port_le c u
  have HPt : Hid _ := portto_any hn u hk
  clear hn ho hk
  by_cases hk0 : k = 0
  · subst hk0
    have e1 : Hid (take c s u l = s) := by show _ = _; unfold take; rw [if_pos HK.out]
    have e2 : Hid (takeE c s u l = 1) := by show _ = _; unfold takeE; rw [if_pos HK.out]
    rw [e1.out, e2.out]
    go_enter Tryz.func32, Tryz.ntmps32
    go_wp2_with fail
    refine Calls.mono HPt.out ?_
    rintro e v ⟨rfl, hB⟩
    have HE : Hid (InjEnd w F (B .p) c s (m + 3) 1 (.returned (.int .u16 1)) v) := ⟨rfl, F, ⟨_, _, _, _, _, rfl, (HN.out.below hB).mono (by omega)⟩, K.grows_below F hB⟩
    clear hB
    go_wp2_with fail
    go_ret
    exact HE.out
  · have hk1 : 1 ≤ k := by omega
    have hk0' : ((k : Int) == 0) = false := by simp; omega
    cases hd : Wire.dec l with
    | none =>
      obtain ⟨e1, e2⟩ := take_bad (c := c) (s := s) (u := u) (by rw [HK.out]; exact hk0) hd
      rw [e1, e2]
      have HV : Hid (decVal .u16 l = _) := bad_val hd
      clear hd e1 e2
      go_enter Tryz.func32, Tryz.ntmps32
      go_wp2_with fail
      refine Calls.mono HPt.out ?_
      rintro e v ⟨rfl, hB⟩
      have HB1 : Hid (Below w.heap.size w v) := hB
      clear hB
      go_wp2_with fail
      refine (decode_any a n cp l v (HO.out.below HB1.out) hncp hcp).mono ?_
      rintro e v2 ⟨rfl, hB⟩
      rw [HV.out]
      obtain ⟨X, hX⟩ : ∃ X, X = v2.alloc (.cells #[.int .u8 0, .int .u8 0, .int .u16 0, .int .u8 0, .int .u8 0, .int .u32 0] 47) := ⟨_, rfl⟩
      have HB2 : Hid (Below w.heap.size w X) := by rw [hX]; exact later (later HB1.out hB) (fresh _ _)
      have HE : Hid (InjEnd w F (B .p) c s (m + 3) 30 (.returned (.int .u16 30)) X) := ⟨rfl, F, ⟨_, _, _, _, _, rfl, (HN.out.below HB2.out).mono (by omega)⟩, K.grows_below F HB2.out⟩
      clear hB
      go_upto_region 5 with fail
      rw [← hX]
      clear hX
      go_wp2_with fail
      go_ret
      exact HE.out
    | some f =>
      have HV : Hid (decVal .u16 l = _) := good_val (k := .u16) hd
      obtain ⟨hok, hsd, _⟩ := Wire.dec_some HO.out.2.2.1 hd
      have HOk : Hid f.ok := hok
      by_cases hfl : f.l < c.L
      · obtain ⟨e1, e2⟩ := take_frame (c := c) (s := s) (u := u) (by rw [HK.out]; exact hk0) hd hfl
        rw [HK.out] at e1 e2
        rw [e1, e2]
        have hkind : f.k = 1 ∨ f.k = 2 ∨ f.k = 3 := by
          have := (Wire.Fr.sound_iff f).1 hsd
          rcases this.2 with h | h
          · exact .inl h.1
          · exact .inr h.1
        clear hd e1 e2 hsd hok
        have HFr : Hid (∀ v : World, Below w.heap.size w v → Calls Tryz.prog 83 #[.pointer (some ⟨B .p, 0, none⟩), .int .i64 k, .agg #[.pointer (some ⟨B (.sq k f.l), 0, none⟩), .pointer (some ⟨B (.rq k f.l), 0, none⟩)], fr f] v (InjEnd v F (B .p) c (data c s k f) (m + 2) (dataE c s k f))) := fun v hv => takedata_any (HN.out.below hv) (by omega) hk1 hkP HOk.out hfl
        have HHs : Hid (∀ v : World, Below w.heap.size w v → Calls Tryz.prog 81 #[.pointer (some ⟨B (.sq k f.l), 0, none⟩), .int .u16 (f.s : Nat)] v fun e w' => AnyB e ∧ InjEnd v F (B .p) c { s with s := up2 s.s k f.l (sHear (s.s k f.l) (f.s : Nat)) } (m + 1) 0 (.returned (.int .u16 0)) w') := fun v hv => hearS (HN.out.below hv) (by omega) hk1 hkP hfl (f.s : Nat) (by have := HOk.out.2.2.1; omega)
        have HHr : Hid (∀ v : World, Below w.heap.size w v → Calls Tryz.prog 82 #[.pointer (some ⟨B (.rq k f.l), 0, none⟩), .int .u16 (f.s : Nat)] v fun e w' => AnyB e ∧ InjEnd v F (B .p) c { s with r := up2 s.r k f.l (rHear c.room (s.r k f.l) (f.s : Nat)) } (m + 1) 0 (.returned (.int .u16 0)) w') := fun v hv => hearR (HN.out.below hv) (by omega) hk1 hkP hfl (f.s : Nat) (by have := HOk.out.2.2.1; omega)
        have HF1 : Hid (f.k = 1 → frame c s k f = data c s k f ∧ frameE c s k f = dataE c s k f) := fun e => by unfold frame frameE; rw [if_pos e, if_pos e]; exact ⟨rfl, rfl⟩
        have HF2 : Hid (f.k = 2 → frame c s k f = { s with s := up2 s.s k f.l (sHear (s.s k f.l) (f.s : Nat)) } ∧ frameE c s k f = 0) := fun e => by unfold frame frameE; rw [if_neg (by omega), if_pos e, if_neg (by omega)]; exact ⟨rfl, rfl⟩
        have HF3 : Hid (f.k = 3 → frame c s k f = { s with r := up2 s.r k f.l (rHear c.room (s.r k f.l) (f.s : Nat)) } ∧ frameE c s k f = 0) := fun e => by unfold frame frameE; rw [if_neg (by omega), if_neg (by omega), if_pos e, if_neg (by omega)]; exact ⟨rfl, rfl⟩
        obtain ⟨fk, fl, fs, fa, fb, fx⟩ := f
        unfold fr at HV HFr
        simp only at HV HFr HHs HHr HF1 HF2 HF3 hkind hfl
        obtain ⟨o1, o2, o3, o4, o5, o6⟩ := HOk.out
        simp only at o1 o2 o3 o4 o5 o6
        have wl : IntKind.i64.wrap (fl : Int) = (fl : Int) := by rw [IntKind.wrap_i64]; omega
        have hfI : (fl : Int) < (c.L : Int) := by omega
        have hfI2 : ¬ (c.L : Int) ≤ (fl : Int) := by omega
        have hkI : (k : Int) < (c.P : Int) := by omega
        go_enter Tryz.func32, Tryz.ntmps32
        go_wp2_with fail
        refine Calls.mono HPt.out ?_
        rintro e v ⟨rfl, hB⟩
        have HB1 : Hid (Below w.heap.size w v) := hB
        clear hB
        go_wp2_with fail
        refine (decode_any a n cp l v (HO.out.below HB1.out) hncp hcp).mono ?_
        rintro e v2 ⟨rfl, hB⟩
        rw [HV.out]
        obtain ⟨b2, hb2⟩ : ∃ b2, v2.heap.size = b2 := ⟨_, rfl⟩
        obtain ⟨X, hX⟩ : ∃ X, X = v2.alloc (.cells #[.int .u8 fk, .int .u8 fl, .int .u16 fs, .int .u8 fa, .int .u8 fb, .int .u32 fx] 47) := ⟨_, rfl⟩
        have HB2 : Hid (Below w.heap.size w X) := by rw [hX]; exact later (later HB1.out hB) (fresh _ _)
        have HX : Hid (Box X b2 ⟨fk, fl, fs, fa, fb, fx⟩) := by rw [hX, ← hb2]; exact Box.made v2 ⟨fk, fl, fs, fa, fb, fx⟩
        clear hB
        go_upto_region 5 with fail
        rw [← hX]
        clear hX
        have HNX : Hid (NIn X F FH FR B ph pr c s m) := HN.out.below HB2.out
        obtain ⟨x0, x1, x2, x3, x4, x5⟩ := HX.out
        simp only at x0 x1 x2 x3 x4 x5
        have k1 := HNX.out.c1
        go_wp2_with fail
        go_quiet (fail)
        obtain ⟨Y, hY⟩ : ∃ Y, Y = X.drewN nq := ⟨_, rfl⟩
        rw [← hY]
        have HB3 : Hid (Below X.heap.size X Y) := by rw [hY]; exact K.drewN_below _ _
        have HNY : Hid (NIn Y F FH FR B ph pr c s m) := HNX.out.below HB3.out
        have HXY : Hid (Box Y b2 ⟨fk, fl, fs, fa, fb, fx⟩) := HX.out.below HB3.out
        have HBY : Hid (Below w.heap.size w Y) := later HB2.out HB3.out
        clear hY x0 x1 x2 x3 x4 x5 k1
        obtain ⟨x0, x1, x2, x3, x4, x5⟩ := HXY.out
        simp only at x0 x1 x2 x3 x4 x5
        obtain ⟨pc, _, _, k6⟩ := HNY.out.c6
        obtain ⟨lc, krl⟩ := HNY.out.rowl k hk1 hkP
        obtain ⟨z0, z1⟩ := HNY.out.lanes k fl hk1 hkP hfl
        have z0' := z0
        rw [show fl * 2 = 0 + fl * 2 from (Nat.zero_add _).symm] at z0'
        obtain ⟨yb, hyb⟩ : ∃ yb, Y.heap.size = yb := ⟨_, rfl⟩
        go_wp2_with fail
        go_region_held3 (fun w' => w'.cell? ⟨B .p, 6, none⟩ = some (.slice (some ⟨B .pb, 0, none⟩) c.P pc) ∧ w'.cell? ⟨b2, 1, none⟩ = some (.int .u8 (fl : Nat)) ∧ w'.cell? ⟨B .pb, k * 3 + 2, none⟩ = some (.slice (some ⟨B (.lb k), 0, none⟩) c.L lc) ∧ w'.cell? ⟨B (.lb k), fl * 2, none⟩ = some (.pointer (some ⟨B (.sq k fl), 0, none⟩)) ∧ w'.cell? ⟨B (.lb k), fl * 2 + 1, none⟩ = some (.pointer (some ⟨B (.rq k fl), 0, none⟩))) (go_keep) (fail)
        obtain ⟨Z, hZ⟩ : ∃ Z, Z = (Y.alloc (.cells #[.pointer (some ⟨B (.sq k fl), 0, none⟩), .pointer (some ⟨B (.rq k fl), 0, none⟩)] 150)).drew := ⟨_, rfl⟩
        rw [← hZ]
        have HB4 : Hid (Below Y.heap.size Y Z) := by rw [hZ]; exact (fresh _ _).drew
        have HE4 : Hid (Z.cell? ⟨yb, 0, none⟩ = some (.pointer (some ⟨B (.sq k fl), 0, none⟩)) ∧ Z.cell? ⟨yb, 1, none⟩ = some (.pointer (some ⟨B (.rq k fl), 0, none⟩))) := by
          rw [hZ, ← hyb]
          exact ⟨by simp, by simp⟩
        have HXZ : Hid (Box Z b2 ⟨fk, fl, fs, fa, fb, fx⟩) := HXY.out.below HB4.out
        have HBZ : Hid (Below w.heap.size w Z) := later HBY.out HB4.out
        clear hZ x0 x1 x2 x3 x4 x5 z0 z1 z0' k6 krl
        obtain ⟨x0, x1, x2, x3, x4, x5⟩ := HXZ.out
        simp only at x0 x1 x2 x3 x4 x5
        obtain ⟨q0, q1⟩ := HE4.out
        rcases hkind with e | e | e
        · subst e
          rw [(HF1.out rfl).1, (HF1.out rfl).2]
          go_wp2_with fail
          refine (HFr.out Z HBZ.out).mono ?_
          intro e v4 hE
          have HE : Hid (InjEnd w F (B .p) c (data c s k ⟨1, fl, fs, fa, fb, fx⟩) (m + 3) (dataE c s k ⟨1, fl, fs, fa, fb, fx⟩) e v4) := hE.later HBZ.out (by omega)
          obtain rfl := hE.1
          clear hE
          go_wp2_with fail
          go_ret
          exact HE.out
        · subst e
          rw [(HF2.out rfl).1, (HF2.out rfl).2]
          go_wp2_with fail
          refine (HHs.out Z HBZ.out).mono ?_
          rintro e v4 ⟨⟨y, rfl⟩, hE⟩
          have HE : Hid (InjEnd w F (B .p) c { s with s := up2 s.s k fl (sHear (s.s k fl) (fs : Nat)) } (m + 3) 0 (.returned (.int .u16 0)) v4) := hE.later HBZ.out (by omega)
          clear hE
          go_wp2_with fail
          go_ret
          exact HE.out
        · subst e
          rw [(HF3.out rfl).1, (HF3.out rfl).2]
          go_wp2_with fail
          refine (HHr.out Z HBZ.out).mono ?_
          rintro e v4 ⟨⟨y, rfl⟩, hE⟩
          have HE : Hid (InjEnd w F (B .p) c { s with r := up2 s.r k fl (rHear c.room (s.r k fl) (fs : Nat)) } (m + 3) 0 (.returned (.int .u16 0)) v4) := hE.later HBZ.out (by omega)
          clear hE
          go_wp2_with fail
          go_ret
          exact HE.out
      · obtain ⟨e1, e2⟩ := take_lane (c := c) (s := s) (u := u) (by rw [HK.out]; exact hk0) hd hfl
        rw [e1, e2]
        clear hd e1 e2 hsd hok
        obtain ⟨fk, fl, fs, fa, fb, fx⟩ := f
        unfold fr at HV
        simp only at HV hfl
        obtain ⟨o1, o2, o3, o4, o5, o6⟩ := HOk.out
        simp only at o1 o2 o3 o4 o5 o6
        have wl : IntKind.i64.wrap (fl : Int) = (fl : Int) := by rw [IntKind.wrap_i64]; omega
        have hfI : (c.L : Int) ≤ (fl : Int) := by omega
        go_enter Tryz.func32, Tryz.ntmps32
        go_wp2_with fail
        refine Calls.mono HPt.out ?_
        rintro e v ⟨rfl, hB⟩
        have HB1 : Hid (Below w.heap.size w v) := hB
        clear hB
        go_wp2_with fail
        refine (decode_any a n cp l v (HO.out.below HB1.out) hncp hcp).mono ?_
        rintro e v2 ⟨rfl, hB⟩
        rw [HV.out]
        obtain ⟨b2, hb2⟩ : ∃ b2, v2.heap.size = b2 := ⟨_, rfl⟩
        obtain ⟨X, hX⟩ : ∃ X, X = v2.alloc (.cells #[.int .u8 fk, .int .u8 fl, .int .u16 fs, .int .u8 fa, .int .u8 fb, .int .u32 fx] 47) := ⟨_, rfl⟩
        have HB2 : Hid (Below w.heap.size w X) := by rw [hX]; exact later (later HB1.out hB) (fresh _ _)
        have HX : Hid (Box X b2 ⟨fk, fl, fs, fa, fb, fx⟩) := by rw [hX, ← hb2]; exact Box.made v2 ⟨fk, fl, fs, fa, fb, fx⟩
        clear hB
        go_upto_region 5 with fail
        rw [← hX]
        clear hX
        have HNX : Hid (NIn X F FH FR B ph pr c s m) := HN.out.below HB2.out
        obtain ⟨x0, x1, x2, x3, x4, x5⟩ := HX.out
        simp only at x0 x1 x2 x3 x4 x5
        have k1 := HNX.out.c1
        go_wp2_with fail
        go_quiet (fail)
        obtain ⟨Y, hY⟩ : ∃ Y, Y = X.drewN nq := ⟨_, rfl⟩
        rw [← hY]
        have HBY : Hid (Below w.heap.size w Y) := by rw [hY]; exact later HB2.out (K.drewN_below _ _)
        have HE : Hid (InjEnd w F (B .p) c s (m + 3) 30 (.returned (.int .u16 30)) Y) := ⟨rfl, F, ⟨_, _, _, _, _, rfl, (HN.out.below HBY.out).mono (by omega)⟩, K.grows_below F HBY.out⟩
        clear hY x0 x1 x2 x3 x4 x5 k1
        go_wp2_with fail
        go_ret
        exact HE.out
end
end Nd
end Go.Proofs.YtniicgbkeifnjaaGreatDoor
namespace Go.Proofs.YtniicgbkeifnjaaGreatDoor
open Go.ChangeShapes Go.WideShapes Go.ChangeAt Go.RowKit
set_option linter.unusedVariables false
set_option maxRecDepth 100000
namespace Nd
def Two (w1 w : World) (qa qb : Nat) (sa sb : St) (m : Nat) : Prop :=
  ∃ FA FB, NAt w FA qa (cK 0) sa m ∧ NAt w FB qb (cK 1) sb m ∧ (∀ j, FA j → ¬ FB j) ∧ (∀ j, FA j → w1.heap.size ≤ j) ∧ (∀ j, FB j → w1.heap.size ≤ j) ∧ Below w1.heap.size w1 w ∧ M.Tab w1
section
variable {w1 w w' : World} {qa qb m : Nat} {sa sb : St}
theorem Two.tab (h : Two w1 w qa qb sa sb m) : M.Tab w := by
  obtain ⟨_, _, _, _, _, _, _, hB, hT⟩ := h
  exact hT.below hB hT.lt
theorem Two.base (h : Two w1 w qa qb sa sb m) : Below w1.heap.size w1 w := by
  obtain ⟨_, _, _, _, _, _, _, hB, hT⟩ := h
  exact hB
theorem Two.below (h : Two w1 w qa qb sa sb m) (k : Below w.heap.size w w') : Two w1 w' qa qb sa sb m := by
  obtain ⟨FA, FB, a, b, d, e, f, hB, hT⟩ := h
  exact ⟨FA, FB, a.below k, b.below k, d, e, f, later hB k, hT⟩
theorem two_a {FA FB FA' : Nat → Prop} {sa' : St} {m' : Nat} (b : NAt w FB qb (cK 1) sb m) (d : ∀ j, FA j → ¬ FB j) (e : ∀ j, FA j → w1.heap.size ≤ j) (f : ∀ j, FB j → w1.heap.size ≤ j) (hB : Below w1.heap.size w1 w) (hT : M.Tab w1) (a' : NAt w' FA' qa (cK 0) sa' m') (g : K.Grows FA w FA' w') (hm : m ≤ m') : Two w1 w' qa qb sa' sb m' :=
  ⟨FA', FB, a', (b.sans g.1 (fun j h1 h2 => d j h2 h1)).mono hm, fun j h1 h2 => (g.2 j h1).elim (fun h => d j h h2) (fun h => by have := b.foot j h2; omega), fun j h => (g.2 j h).elim (e j) (fun h => Nat.le_trans hB.size h), f, hB.trans (g.1.below (B := w1.heap.size) hB.size e), hT⟩
theorem two_b {FA FB FB' : Nat → Prop} {sb' : St} {m' : Nat} (a : NAt w FA qa (cK 0) sa m) (d : ∀ j, FA j → ¬ FB j) (e : ∀ j, FA j → w1.heap.size ≤ j) (f : ∀ j, FB j → w1.heap.size ≤ j) (hB : Below w1.heap.size w1 w) (hT : M.Tab w1) (b' : NAt w' FB' qb (cK 1) sb' m') (g : K.Grows FB w FB' w') (hm : m ≤ m') : Two w1 w' qa qb sa sb' m' :=
  ⟨FA, FB', (a.sans g.1 d).mono hm, b', fun j h1 h2 => (g.2 j h2).elim (fun h => d j h1 h) (fun h => by have := a.foot j h1; omega), e, fun j h => (g.2 j h).elim (f j) (fun h => Nat.le_trans hB.size h), hB.trans (g.1.below (B := w1.heap.size) hB.size f), hT⟩
theorem t_inject (h : Two w1 w qa qb sa sb m) (x : Pk) (hx : 0 ≤ x.b ∧ x.b < 4294967296) :
    Calls Tryz.prog 13 #[.pointer (some ⟨qa, 0, none⟩), .agg #[.int .i64 x.s, .int .i64 x.d, .int .i64 x.l, .int .u32 x.b]] w fun e w' => e = .returned (.int .u16 (injE (cK 0) sa x)) ∧ Two w1 w' qa qb (inj (cK 0) sa x) sb (m + 1) := by
  obtain ⟨FA, FB, a, b, d, e, f, hB, hT⟩ := h
  refine (inject_any a x hx).mono ?_
  rintro e' w' ⟨rfl, F', a', g⟩
  exact ⟨rfl, two_a b d e f hB hT a' g (by omega)⟩
theorem t_tickB (h : Two w1 w qa qb sa sb m) (hm : m ≤ 70000) :
    Calls Tryz.prog 16 #[.pointer (some ⟨qb, 0, none⟩)] w fun e w' => ∃ v, e = .returned v ∧ Two w1 w' qa qb sa (tick (cK 1) sb).1 (m + 40) := by
  have ht := h.tab
  obtain ⟨FA, FB, a, b, d, e, f, hB, hT⟩ := h
  refine (tick_any b ht hm).mono ?_
  rintro e' w' ⟨v, G, F', rfl, b', _, _, g⟩
  exact ⟨v, rfl, two_b a d e f hB hT b' g (by omega)⟩
theorem t_tickA (h : Two w1 w qa qb sa sb m) (hm : m ≤ 70000) (ho : (tick (cK 0) sa).2.map (fun o => o.1) = [1]) :
    Calls Tryz.prog 16 #[.pointer (some ⟨qa, 0, none⟩)] w fun e w' => ∃ g cg a n cp, e = .returned (.slice (some ⟨g, 0, none⟩) 1 cg) ∧ w'.cell? ⟨g, 0, none⟩ = some (.int .i64 1) ∧ w'.cell? ⟨g, 1, none⟩ = some (.slice a n cp) ∧ Octs w' a n ((tick (cK 0) sa).2.getD 0 (0, [])).2 ∧ n ≤ cp ∧ cp ≤ 9223372036854775807 ∧ Two w1 w' qa qb (tick (cK 0) sa).1 sb (m + 40) := by
  have ht := h.tab
  obtain ⟨FA, FB, a, b, d, e, f, hB, hT⟩ := h
  refine (tick_any a ht hm).mono ?_
  rintro e' w' ⟨v, G, F', rfl, a', hO, _, g⟩
  obtain ⟨R, r1, r2, r3, r4⟩ := hO.raw
  obtain ⟨os, hos⟩ : ∃ os, (tick (cK 0) sa).2 = os := ⟨_, rfl⟩
  rw [hos] at ho r1 r4 ⊢
  have hl1 : os.length = 1 := by have := congrArg List.length ho; simpa using this
  obtain ⟨o, rfl⟩ := List.length_eq_one_iff.1 hl1
  obtain ⟨r, rfl⟩ := List.length_eq_one_iff.1 (show R.length = 1 from r1)
  obtain ⟨g0, cg, e1, hlt⟩ := owns_pos r2 (by simp)
  subst e1
  obtain ⟨q1, q2, q3, q4, q5⟩ := r4 0 r o rfl rfl
  have ho1 : o.1 = 1 := by simpa using ho
  have c0 := r2.cellAt 0 (by simp)
  have c1 := r2.cellAt 1 (by simp)
  have t := ocells_at (R := [r]) (j := 0) (r := r) rfl
  refine ⟨g0, cg, r.a, r.n, r.c, rfl, ?_, c1.trans t.2, q2, q3, q4, two_a b d e f hB hT a' g (by omega)⟩
  rw [c0, ← ho1, ← q1]
  exact t.1
theorem t_take (h : Two w1 w qa qb sa sb m) (hm : m ≤ 80000) {a : Option Addr} {n cp : Nat} {l : List Nat} (ho : Octs w a n l) (hn : n ≤ cp) (hc : cp ≤ 9223372036854775807) :
    Calls Tryz.prog 32 #[.pointer (some ⟨qb, 0, none⟩), .int .i64 0, .slice a n cp] w fun e w' => e = .returned (.int .u16 (takeE (cK 1) sb 0 l)) ∧ Two w1 w' qa qb sa (take (cK 1) sb 0 l) (m + 3) := by
  obtain ⟨FA, FB, a0, b, d, e, f, hB, hT⟩ := h
  refine (take_any b hm 0 ho hn hc).mono ?_
  rintro e' w' ⟨rfl, F', b', g⟩
  exact ⟨rfl, two_b a0 d e f hB hT b' g (by omega)⟩
theorem t_hostA (h : Two w1 w qa qb sa sb m) : Calls Tryz.prog 14 #[.pointer (some ⟨qa, 0, none⟩)] w fun e w' => (∃ ph, e = .returned (.pointer (some ⟨ph, 0, none⟩))) ∧ w' = w := by
  obtain ⟨FA, FB, ⟨FH, FR, B, ph, pr, rfl, a⟩, _⟩ := h
  exact (host_any a).mono fun e w' h => ⟨⟨ph, h.1⟩, h.2⟩
theorem t_hostB (h : Two w1 w qa qb sa sb m) : Calls Tryz.prog 14 #[.pointer (some ⟨qb, 0, none⟩)] w fun e w' => (∃ ph FH, e = .returned (.pointer (some ⟨ph, 0, none⟩)) ∧ K.LAt w FH ph 1 1 sb.hL sb.hG) ∧ w' = w := by
  obtain ⟨FA, FB, _, ⟨FH, FR, B, ph, pr, rfl, a⟩, _⟩ := h
  exact (host_any a).mono fun e w' h => ⟨⟨ph, FH, h.1, a.host⟩, h.2⟩
theorem t_rings (h : Two w1 w qa qb sa sb m) : Calls Tryz.prog 41 #[.pointer (some ⟨qa, 0, none⟩)] w fun e w' => (∃ ph, e = .returned (.pointer (some ⟨ph, 0, none⟩))) ∧ w' = w := by
  obtain ⟨FA, FB, ⟨FH, FR, B, ph, pr, rfl, a⟩, _⟩ := h
  exact (rings_any a).mono fun e w' h => ⟨⟨pr, h.1⟩, h.2⟩
theorem t_send (h : Two w1 w qa qb sa sb m) : Calls Tryz.prog 27 #[.pointer (some ⟨qa, 0, none⟩), .int .i64 1, .int .i64 0] w fun e w' => (∃ ph, e = .returned (.pointer (some ⟨ph, 0, none⟩))) ∧ Two w1 w' qa qb sa sb m := by
  have h' := h
  obtain ⟨FA, FB, ⟨FH, FR, B, ph, pr, rfl, a⟩, _⟩ := h
  exact (sender_any a (i := 1) (l := 0) (by decide) (by decide) (by decide)).mono fun e w' h => ⟨⟨_, h.1⟩, h'.below h.2⟩
theorem t_recv (h : Two w1 w qa qb sa sb m) : Calls Tryz.prog 26 #[.pointer (some ⟨qa, 0, none⟩), .int .i64 1, .int .i64 0] w fun e w' => (∃ ph, e = .returned (.pointer (some ⟨ph, 0, none⟩))) ∧ Two w1 w' qa qb sa sb m := by
  have h' := h
  obtain ⟨FA, FB, ⟨FH, FR, B, ph, pr, rfl, a⟩, _⟩ := h
  exact (receiver_any a (i := 1) (l := 0) (by decide) (by decide) (by decide)).mono fun e w' h => ⟨⟨_, h.1⟩, h'.below h.2⟩
theorem t_send0 (h : Two w1 w qa qb sa sb m) : Calls Tryz.prog 27 #[.pointer (some ⟨qa, 0, none⟩), .int .i64 0, .int .i64 0] w fun e w' => e = .returned (.pointer none) ∧ Two w1 w' qa qb sa sb m := by
  have h' := h
  obtain ⟨FA, FB, ⟨FH, FR, B, ph, pr, rfl, a⟩, _⟩ := h
  exact (sender_none a 0).mono fun e w' h => ⟨h.1, h'.below h.2⟩
end
end Nd
end Go.Proofs.YtniicgbkeifnjaaGreatDoor
namespace Go.Proofs.YtniicgbkeifnjaaGreatDoor
open Go.ChangeShapes Go.WideShapes Go.ChangeAt Go.RowKit
set_option linter.unusedVariables false
set_option maxRecDepth 100000
namespace Nd
theorem PlN.every {w : World} {p : PV} {es : List (Int × Int)} {ws : List Int} {rs : List (List Int)} (h : PlN w p es ws rs) (z : Int) (hz : I64 z) : PlN w { p with every := z } es ws rs := by
  obtain ⟨⟨a1, a2, a3, a4, a5, a6, a7, a8, a9, a10, a11, q⟩, m, ni⟩ := h
  exact ⟨⟨a1, a2, a3, a4, a5, a6, a7, a8, a9, a10, a11, q.1, q.2.1, q.2.2.1, q.2.2.2.1, q.2.2.2.2.1, hz, q.2.2.2.2.2.2⟩, m, ni⟩
theorem cfg_known {p : PV} (h1 : p.nodes = 2) (h2 : p.lanes = 1) (h3 : p.room = 2) (h4 : p.queue = 1) (h5 : p.rounds = 1) (h6 : p.every = 8) (v : Nat) : cfgOf p esK [1] rsK v = cK v := by
  unfold cfgOf cK
  rw [h1, h2, h3, h4, h5, h6]
  rfl
theorem num_known {p : PV} (h1 : p.nodes = 2) (h2 : p.lanes = 1) (h3 : p.room = 2) (h4 : p.queue = 1) (h5 : p.rounds = 1) (h6 : p.every = 8) (h7 : p.bag = 64) : Plan.may p.num esK [1] (rsK.map List.length) = true := by
  unfold PV.num
  rw [h1, h2, h3, h4, h5, h6, h7]
  exact mayK
theorem new_known {u : World} {p : PV} (h : PlN u p esK [1] rsK) (hg : ¬ Route.Bad 2 esK rsK) (h1 : p.nodes = 2) (h2 : p.lanes = 1) (h3 : p.room = 2) (h4 : p.queue = 1) (h5 : p.rounds = 1) (h6 : p.every = 8) (h7 : p.bag = 64) (h8 : p.start = 0) (v : Nat) (hv : v < 2) :
    Calls Tryz.prog 11 #[p.val, .int .i64 (v : Nat)] u fun e u' => ∃ q F, e = .returned (.pointer (some ⟨q, 0, none⟩)) ∧ NAt u' F q (cK v) (st0 (cK v) 0) 0 ∧ Below u.heap.size u u' ∧ ∀ k, F k → u.heap.size ≤ k := by
  have hm := num_known h1 h2 h3 h4 h5 h6 h7
  have hb : ¬ Route.Bad p.nodes esK rsK := by rw [h1]; exact hg
  obtain ⟨n, hk⟩ := newok hm hb (v := v) (by omega) (by omega)
  refine (new_yes h ⟨hm, hb, by omega, by omega⟩ hk).mono ?_
  rintro e u' ⟨q, F, he, hn, hB, hF⟩
  rw [cfg_known h1 h2 h3 h4 h5 h6, show p.start.toNat = 0 by rw [h8]; rfl] at hn
  exact ⟨q, F, he, hn, hB, hF⟩
theorem none_known {u : World} {p : PV} (h : PlN u p esK [1] rsK) (h1 : p.nodes = 2) : Calls Tryz.prog 11 #[p.val, .int .i64 2] u fun e u' => e = .returned (.pointer none) ∧ Below u.heap.size u u' :=
  new_no h (fun h => by have := h.2.2.2; omega)
end Nd
end Go.Proofs.YtniicgbkeifnjaaGreatDoor
namespace Go.Proofs.YtniicgbkeifnjaaGreatDoor.Nd
open Go.ChangeShapes Go.WideShapes Go.ChangeAt Go.RowKit
set_option linter.unusedVariables false
set_option maxRecDepth 100000
def fineX (c : Cfg) (x : Pk) : Prop := (x.s = (c.v : Int) ∧ 0 ≤ x.d ∧ x.d < (c.N : Int) ∧ x.d ≠ (c.v : Int)) ∧ 0 ≤ x.l ∧ x.l < (c.L : Int)
def many (s : St) (x : Pk) (i : Nat) : St := { s with hL := List.replicate i x }
theorem lane_many (x : Pk) : ∀ i, K.Hst.lane (List.replicate i x) x.l = List.replicate i x
  | 0 => rfl
  | i + 1 => by
    rw [List.replicate_succ', K.Hst.lane_snoc_at, lane_many x i]
theorem inj_not {c : Cfg} {s : St} {x : Pk} (h : ¬ fineX c x) : injE c s x = 1 ∧ inj c s x = s := by
  unfold injE inj
  by_cases h1 : x.s = (c.v : Int) ∧ 0 ≤ x.d ∧ x.d < (c.N : Int) ∧ x.d ≠ (c.v : Int)
  · rw [if_pos h1, if_pos h1]
    have h2 : x.l < 0 ∨ (c.L : Int) ≤ x.l := by
      rcases Classical.em (x.l < 0 ∨ (c.L : Int) ≤ x.l) with h2 | h2
      · exact h2
      · exact absurd ⟨h1, by omega, by omega⟩ h
    have e := K.Hst.putE_lane (n := c.L) (q := c.q) (L := s.hL) h2
    exact ⟨e, by rw [K.Hst.putL_no (by rw [e]; decide)]⟩
  · rw [if_neg h1, if_neg h1]
    exact ⟨rfl, rfl⟩
theorem inj_many {c : Cfg} {s : St} {x : Pk} (h : fineX c x) {i : Nat} (hi : i < c.q) : injE c (many s x i) x = 0 ∧ inj c (many s x i) x = many s x (i + 1) := by
  unfold injE inj
  rw [if_pos h.1, if_pos h.1]
  have e : K.Hst.putE c.L c.q (many s x i).hL x = 0 := K.Hst.putE_ok (by have := h.2; omega) (by
    show ¬ c.q ≤ (K.Hst.lane (List.replicate i x) x.l).length
    rw [lane_many, List.length_replicate]
    omega)
  refine ⟨e, ?_⟩
  rw [K.Hst.putL_yes e]
  unfold many
  simp only
  rw [← List.replicate_succ']
theorem inj_full {c : Cfg} {s : St} {x : Pk} (h : fineX c x) : injE c (many s x c.q) x = 150 ∧ inj c (many s x c.q) x = many s x c.q := by
  unfold injE inj
  rw [if_pos h.1, if_pos h.1]
  have e : K.Hst.putE c.L c.q (many s x c.q).hL x = 150 := K.Hst.putE_full (by have := h.2; omega) (by
    show c.q ≤ (K.Hst.lane (List.replicate c.q x) x.l).length
    rw [lane_many, List.length_replicate]
    exact Nat.le_refl _)
  refine ⟨e, ?_⟩
  rw [K.Hst.putL_no (by rw [e]; decide)]
end Go.Proofs.YtniicgbkeifnjaaGreatDoor.Nd
namespace Go.Proofs.YtniicgbkeifnjaaGreatDoor
open Go.ChangeShapes Go.WideShapes Go.ChangeAt Go.RowKit
set_option linter.unusedVariables false
set_option maxRecDepth 100000
namespace Nd
def One (w1 w : World) (q : Nat) (c : Cfg) (s : St) (m : Nat) : Prop := ∃ F, NAt w F q c s m ∧ (∀ j, F j → w1.heap.size ≤ j) ∧ Below w1.heap.size w1 w
section
variable {w1 w w' : World} {q m m' : Nat} {c : Cfg} {s s' : St}
theorem One.base (h : One w1 w q c s m) : Below w1.heap.size w1 w := by
  obtain ⟨F, _, _, hB⟩ := h
  exact hB
theorem One.below (h : One w1 w q c s m) (k : Below w.heap.size w w') : One w1 w' q c s m := by
  obtain ⟨F, a, f, hB⟩ := h
  exact ⟨F, a.below k, f, later hB k⟩
theorem One.mono (h : One w1 w q c s m) (k : m ≤ m') : One w1 w q c s m' := by
  obtain ⟨F, a, f, hB⟩ := h
  exact ⟨F, a.mono k, f, hB⟩
theorem one_next {F F' : Nat → Prop} (f : ∀ j, F j → w1.heap.size ≤ j) (hB : Below w1.heap.size w1 w) (a' : NAt w' F' q c s' m') (g : K.Grows F w F' w') : One w1 w' q c s' m' :=
  ⟨F', a', fun j h => (g.2 j h).elim (f j) (fun h => Nat.le_trans hB.size h), hB.trans (g.1.below (B := w1.heap.size) hB.size f)⟩
theorem o_inject (h : One w1 w q c s m) (x : Pk) (hx : 0 ≤ x.b ∧ x.b < 4294967296) :
    Calls Tryz.prog 13 #[.pointer (some ⟨q, 0, none⟩), .agg #[.int .i64 x.s, .int .i64 x.d, .int .i64 x.l, .int .u32 x.b]] w fun e w' => e = .returned (.int .u16 (injE c s x)) ∧ One w1 w' q c (inj c s x) (m + 1) := by
  obtain ⟨F, a, f, hB⟩ := h
  refine (inject_any a x hx).mono ?_
  rintro e' w' ⟨rfl, F', a', g⟩
  exact ⟨rfl, one_next f hB a' g⟩
theorem o_tick (h : One w1 w q c s m) (hT : M.Tab w1) (hm : m ≤ 70000) :
    Calls Tryz.prog 16 #[.pointer (some ⟨q, 0, none⟩)] w fun e w' => ∃ v G, e = .returned v ∧ OutsAt w' G v (tick c s).2 ∧ (∀ j, G j → w.heap.size ≤ j) ∧ One w1 w' q c (tick c s).1 (m + 40) := by
  obtain ⟨F, a, f, hB⟩ := h
  refine (tick_any a (hT.below hB hT.lt) hm).mono ?_
  rintro e' w' ⟨v, G, F', rfl, b', hO, hG, g⟩
  exact ⟨v, G, rfl, hO, fun j hj => (hG j hj).2, one_next f hB b' g⟩
theorem o_host (h : One w1 w q c s m) : Calls Tryz.prog 14 #[.pointer (some ⟨q, 0, none⟩)] w fun e w' => (∃ ph FH, e = .returned (.pointer (some ⟨ph, 0, none⟩)) ∧ K.LAt w FH ph c.L c.q s.hL s.hG) ∧ w' = w := by
  obtain ⟨F, ⟨FH, FR, B, ph, pr, rfl, a⟩, _⟩ := h
  exact (host_any a).mono fun e w' h => ⟨⟨ph, FH, h.1, a.host⟩, h.2⟩
theorem one_new {u : World} {l : List Nat} {room more start : Nat} {p : PV} (h : TreePlan u l room more start p) (hs : start ≤ 65535) {v : Nat} (hv : (v : Int) < p.nodes) :
    Calls Tryz.prog 11 #[p.val, .int .i64 (v : Nat)] u fun e u' => ∃ q, e = .returned (.pointer (some ⟨q, 0, none⟩)) ∧ One u u' q (cfgOf p (Tree.edges (Tree.ofL l)) (Plan.mkW more (Plan.mkL more)) (Tree.rows (Tree.ofL l)) v) (st0 (cfgOf p (Tree.edges (Tree.ofL l)) (Plan.mkW more (Plan.mkL more)) (Tree.rows (Tree.ofL l)) v) start) 0 := by
  have hst := h.start
  obtain ⟨n, hk⟩ := newok h.may h.good hv (by omega)
  refine (new_yes h.pln ⟨h.may, h.good, by omega, hv⟩ hk).mono ?_
  rintro e u' ⟨q, F, rfl, hn, hB, hF⟩
  rw [show p.start.toNat = start by omega] at hn
  exact ⟨q, rfl, F, hn, hF, hB⟩
end
end Nd
end Go.Proofs.YtniicgbkeifnjaaGreatDoor
namespace Go.Proofs.YtniicgbkeifnjaaGreatDoor.Nd
open Go.ChangeShapes Go.WideShapes Go.ChangeAt Go.RowKit
set_option linter.unusedVariables false
set_option maxRecDepth 100000
theorem portIn_no {u : Int} : ∀ {l : List Int} {k : Nat}, u ∉ l → portIn u l k = 0
  | [], _, _ => rfl
  | y :: r, k, h => by
    unfold portIn
    rw [if_neg (fun e => h (by rw [e]; exact List.mem_cons_self)), portIn_no (fun e => h (List.mem_cons_of_mem _ e))]
theorem portIn_yes {u : Int} : ∀ {l : List Int} {k : Nat}, u ∈ l → portIn u l k ≠ 0
  | [], _, h => by cases h
  | y :: r, k, h => by
    unfold portIn
    by_cases e : y = u
    · rw [if_pos e]; omega
    · rw [if_neg e]
      rcases List.mem_cons.1 h with h | h
      · exact absurd h.symm e
      · exact portIn_yes h
theorem take_none {c : Cfg} {s : St} {u : Int} {b : List Nat} (h : u ∈ c.bs) (hd : Wire.dec b = none) : takeE c s u b = 30 ∧ take c s u b = s := by
  unfold takeE take port
  rw [if_neg (portIn_yes h), if_neg (portIn_yes h), hd]
  exact ⟨rfl, rfl⟩
def goodF (q : Nat) : Wire.Fr := ⟨2, 2, q, 0, 0, 0⟩
theorem good_fine {q : Nat} (hq : q < 65536) : (goodF q).ok ∧ (goodF q).sound = true := by
  unfold goodF
  refine ⟨⟨?_, ?_, hq, ?_, ?_, ?_⟩, (Wire.Fr.sound_iff _).2 ⟨?_, .inr ⟨.inl rfl, rfl, rfl, rfl⟩⟩⟩
  all_goals (simp only; omega)
theorem good_len (q : Nat) : (goodF q).enc.length = 6 := by
  rw [Wire.enc_length]
  exact if_neg (by unfold goodF; simp only; omega)
theorem take_good {c : Cfg} {s : St} {u : Int} {q : Nat} (hq : q < 65536) (h : u ∈ c.bs) :
    takeE c s u (goodF q).enc = (if 2 < c.L then 0 else 30) ∧ (take c s u (goodF q).enc).s 1 0 = s.s 1 0 := by
  obtain ⟨h1, h2⟩ := good_fine hq
  unfold takeE take port
  rw [if_neg (portIn_yes h), if_neg (portIn_yes h), Wire.dec_enc h1 h2]
  simp only
  rw [show (goodF q).l = 2 from rfl]
  by_cases h3 : 2 < c.L
  · rw [if_pos h3, if_pos h3, if_pos h3]
    unfold frameE frame
    rw [show (goodF q).k = 2 from rfl, if_neg (by omega), if_neg (by omega), if_pos rfl]
    refine ⟨rfl, ?_⟩
    exact up2_not _ _ (fun e => by have := e.2; simp [goodF] at this)
  · rw [if_neg h3, if_neg h3, if_neg h3]
    exact ⟨rfl, rfl⟩
theorem nine_none {q : Nat} (hq : q < 65536) : Wire.dec (9 :: (goodF q).enc) = none := by
  refine Wire.dec_length ?_ ?_ ?_
  · intro y hy
    rcases List.mem_cons.1 hy with e | e
    · omega
    · exact Wire.enc_oct (good_fine hq).1 y e
  · rw [List.length_cons, good_len]; omega
  · rw [List.length_cons, good_len]; omega
end Go.Proofs.YtniicgbkeifnjaaGreatDoor.Nd
