/-
  Contracts and plain facts that the walks lean on (NodeF). Conditions: none but those that each states.
-/
import Derived.Test.YtniicgbkeifnjaaGreatDoorQ34
namespace Go.Proofs.YtniicgbkeifnjaaGreatDoor
open Go.ChangeShapes Go.WideShapes Go.ChangeAt Go.RowKit
set_option linter.unusedVariables false
set_option maxRecDepth 100000
namespace Nd
theorem maskOf_some {p : Nat → Bool} : ∀ {n : Nat}, maskOf p n ≠ 0 → ∃ i, i < n ∧ p i = true
  | 0, h => absurd rfl h
  | n + 1, h => by
    cases hp : p n with
    | true => exact ⟨n, by omega, hp⟩
    | false =>
      rw [maskOf_miss hp] at h
      obtain ⟨i, h1, h2⟩ := maskOf_some h
      exact ⟨i, by omega, h2⟩
theorem pass_lane {c : Cfg} {s : St} {i o : Nat} (h : mayM c s i o ≠ 0) : ∃ l : Nat, wLane c.L (s.wl o) (s.wf o) (mayM c s i o) = (l : Nat) ∧ l < c.L ∧ may c s i o l = true := by
  rcases wLane_cases c.L (s.wl o) (s.wf o) (mayM c s i o) with e | ⟨k, e, hk, hb⟩
  · obtain ⟨j, hj, hp⟩ := maskOf_some h
    have := wLane_none (n := c.L) (lf := s.wl o) (f := s.wf o) (m := mayM c s i o) (by rw [e]; decide) j hj
    unfold mayM at this
    rw [maskOf_bit, decide_eq_true hj, Bool.true_and, hp] at this
    cases this
  · refine ⟨k, e, hk, ?_⟩
    unfold mayM at hb
    rw [maskOf_bit, decide_eq_true hk, Bool.true_and] at hb
    exact hb
def goneA (c : Cfg) (s : St) (i o : Nat) : St := { s with wl := up1 s.wl o (wLeft c.L c.wt (s.wl o) (s.wf o) (mayM c s i o)), wf := up1 s.wf o (wFrom c.L (s.wl o) (s.wf o) (mayM c s i o)) }
def goneB (s : St) (i o l : Nat) : St := { s with t := s.t - 1, Q := K.upd s.Q ((i : Nat), (o : Nat), (l : Nat)) (s.Q ((i : Nat), (o : Nat), (l : Nat))).tail }
def goneC (s : St) (i l : Nat) : St := { s with r := if i = 0 then s.r else up2 s.r i l (rFree (s.r i l)) }
theorem pass_to0 {c : Cfg} {s : St} {i l : Nat} (h : wLane c.L (s.wl 0) (s.wf 0) (mayM c s i 0) = (l : Nat)) : pass c s i 0 = ({ goneC (goneB (goneA c s i 0) i 0 l) i l with hG := s.hG ++ [K.hd (s.Q ((i : Nat), ((0 : Nat) : Int), (l : Nat)))] }, []) := by
  unfold pass
  rw [h, if_neg (by omega), Int.toNat_natCast]
  rfl
theorem pass_to {c : Cfg} {s : St} {i o l : Nat} (ho : o ≠ 0) (h : wLane c.L (s.wl o) (s.wf o) (mayM c s i o) = (l : Nat)) : pass c s i o = ({ goneC (goneB (goneA c s i o) i o l) i l with s := up2 s.s o l (sNext (s.s o l)) }, [out c o (dataF l (sNum (s.s o l)) (K.hd (s.Q ((i : Nat), (o : Nat), (l : Nat)))))]) := by
  unfold pass
  rw [h, if_neg (by omega), Int.toNat_natCast]
  unfold goes
  simp only [if_neg ho]
  rfl
section
variable {Z F0 F FH FR : Nat → Prop} {w0 w : World} {B : Lb → Nat} {ph pr m bx : Nat} {c : Cfg} {s : St} {os : Outs}
theorem ejected (T : TickAt Z w0 F0 w F (B .p) c s (m + 2) bx os) (h : NIn w F FH FR B ph pr c s (m + 2)) (x : Pk) (hm : m ≤ 90000) {u : World} (hB : Below w.heap.size w u) :
    Calls Tryz.prog 176 #[.pointer (some ⟨ph, 0, none⟩), .agg #[.int .i64 x.s, .int .i64 x.d, .int .i64 x.l, .int .u32 x.b]] u fun e w' => e = .returned (.tuple #[]) ∧ ∃ F', TickAt Z w0 F0 w' F' (B .p) c { s with hG := s.hG ++ [x] } (m + 4) bx os ∧ w'.cell? ⟨B .p, 8, none⟩ = some (.pointer (some ⟨ph, 0, none⟩)) ∧ Sans (fun j => ¬ Z j) u w' := by
  have hN := h.below hB
  have hgl := h.st.gn
  refine (K.hEject_any hN.host x (by omega)).mono ?_
  rintro e w' ⟨he, F', hv, hg⟩
  obtain ⟨n1, n2⟩ := hN.upHost hg hv h.st.hd (by rw [List.length_append, List.length_singleton]; omega)
  obtain ⟨t1, t2⟩ := (T.on hB).turn ⟨_, _, _, _, _, rfl, n1.mono (show m + 2 + 1 ≤ m + 4 by omega)⟩ n2
  exact ⟨he, _, t1, n1.c8, t2⟩
theorem nexted (T : TickAt Z w0 F0 w F (B .p) c s (m + 2) bx os) (h : NIn w F FH FR B ph pr c s (m + 2)) {o l : Nat} (h1 : 1 ≤ o) (h2 : o < c.P) (h3 : l < c.L) (hm : m ≤ 90000) :
    Calls Tryz.prog 177 #[.pointer (some ⟨B (.sq o l), 0, none⟩)] w fun e w' => AnyT (sNum (s.s o l)) e ∧ TickAt Z w0 F0 w' F (B .p) c { s with s := up2 s.s o l (sNext (s.s o l)) } (m + 3) bx os ∧ Sans (fun j => ¬ Z j) w w' := by
  have hb := h.st.sn o l h1 h2 h3
  refine (Cr.snext_any (h.snd o l h1 h2 h3) (by omega)).mono ?_
  rintro e w' ⟨he, hv, hs⟩
  have hle : (sNext (s.s o l)).1 ≤ (s.s o l).1 + 1 := by
    unfold sNext
    split
    · omega
    · show (s.s o l).1 + 1 ≤ _
      omega
  have n1 := h.upSnd (v := sNext (s.s o l)) h1 h2 h3 hs hv (by omega)
  have hF := (h.own (.sq o l) ⟨h1, h2, h3⟩).1
  obtain ⟨t1, t2⟩ := T.turn (F' := F) ⟨_, _, _, _, _, rfl, n1⟩ ⟨hs.mono (fun j e => by rw [e]; exact hF), fun j hj => .inl hj⟩
  exact ⟨he, t1, t2⟩
set_option maxHeartbeats 16000000 in
set_option maxRecDepth 100000 in
theorem pass_any (T : TickAt Z w0 F0 w F (B .p) c s m bx os) (h : NIn w F FH FR B ph pr c s m) (hm : m ≤ 90000) (hos : os.length ≤ 900) {i o : Nat} (hi : i < c.P) (ho : o < c.P) (hne : mayM c s i o ≠ 0) :
    Calls Tryz.prog 107 #[.pointer (some ⟨B .p, 0, none⟩), .int .i64 i, .int .i64 o, .func (Fn.func 45) #[] #[.pointer (some ⟨bx, 0, none⟩)]] w fun e w' => e = .returned (.tuple #[]) ∧ ∃ F', TickAt Z w0 F0 w' F' (B .p) c (pass c s i o).1 (m + 4) bx (os ++ (pass c s i o).2) ∧ Sans (fun j => ¬ Z j) w w' := by
  obtain ⟨l, hl, hlL, hml⟩ := pass_lane hne
  have hL := h.cfg.L3
  have hP := h.cfg.P6
  have HL : Hid (wLane c.L (s.wl o) (s.wf o) (mayM c s i o) = (l : Nat)) := hl
  have HPs1 : Hid (o ≠ 0 → pass c s i o = ({ goneC (goneB (goneA c s i o) i o l) i l with s := up2 s.s o l (sNext (s.s o l)) }, [out c o (dataF l (sNum (s.s o l)) (K.hd (s.Q ((i : Nat), (o : Nat), (l : Nat)))))])) := fun e => pass_to e hl
  obtain ⟨xk, hxk⟩ : ∃ xk, K.hd (s.Q ((i : Nat), (o : Nat), (l : Nat))) = xk := ⟨_, rfl⟩
  have hQne : (!(s.Q ((i : Nat), (o : Nat), (l : Nat))).isEmpty) = true := by
    unfold may at hml
    simp only [Bool.and_eq_true] at hml
    exact hml.1.2
  have hxb : 0 ≤ xk.b ∧ xk.b < 4294967296 := by
    cases hq : s.Q ((i : Nat), (o : Nat), (l : Nat)) with
    | nil => rw [hq] at hQne; cases hQne
    | cons y r =>
      have := h.st.qd ((i : Nat), (o : Nat), (l : Nat)) y (by rw [hq]; exact List.mem_cons_self)
      rw [← hxk, hq]
      exact this
  have HQ : Hid ((!(s.Q ((i : Nat), (o : Nat), (l : Nat))).isEmpty) = true ∧ K.hd (s.Q ((i : Nat), (o : Nat), (l : Nat))) = xk) := ⟨hQne, hxk⟩
  rw [hxk] at HPs1
  have HPs0 : Hid (o = 0 → pass c s i o = ({ goneC (goneB (goneA c s i o) i o l) i l with hG := s.hG ++ [xk] }, [])) := fun e => by subst e; rw [pass_to0 hl, hxk]
  obtain ⟨xs, xd, xl, xbz⟩ := xk
  obtain ⟨xb, rfl⟩ := Int.eq_ofNat_of_zero_le hxb.1
  have HXb : Hid (xb < 4294967296) := by have := hxb.2; show _ < _; simp only at this; omega
  obtain ⟨xa, hxa⟩ : ∃ xa, (xs % 256).toNat = xa := ⟨_, rfl⟩
  have HXa : Hid ((xs % 256).toNat = xa) := hxa
  obtain ⟨xz, hxz⟩ : ∃ xz, (xd % 256).toNat = xz := ⟨_, rfl⟩
  have HXz : Hid ((xd % 256).toNat = xz) := hxz
  clear hxa hxz hxb
  obtain ⟨z, hz⟩ : ∃ z, mayM c s i o = z := ⟨_, rfl⟩
  have HZ : Hid (mayM c s i o = z) := hz
  have hz16 : z < 65536 := by rw [← hz]; exact mayM_16 (by omega) s i o
  obtain ⟨lv, hlv, hlw⟩ := h.row ho
  have hrw := h.rows o ho
  obtain ⟨la, ln, lc, hle⟩ : ∃ la ln lc, lv = .slice la ln lc := by
    rcases hlw with ⟨_, e⟩ | ⟨_, lc, e⟩
    · exact ⟨_, _, _, e⟩
    · exact ⟨_, _, _, e⟩
  subst hle
  have HV : Hid ((o = 0 ∧ Value.slice la ln lc = .slice none 0 0) ∨ (1 ≤ o ∧ ∃ lc', Value.slice la ln lc = .slice (some ⟨B (.lb o), 0, none⟩) c.L lc')) := hlw
  obtain ⟨b1, hb1⟩ : ∃ b1, w.heap.size = b1 := ⟨_, rfl⟩
  obtain ⟨W, hW⟩ : ∃ W, W = w.alloc (.cells #[.pointer (some ⟨B (.wq o), 0, none⟩), .int .i64 (toV c o), .slice la ln lc] 113) := ⟨_, rfl⟩
  have HB : Hid (Below w.heap.size w W) := by rw [hW]; exact fresh _ _
  have HTo0 : Hid (W.cell? ⟨b1, 0, none⟩ = some (.pointer (some ⟨B (.wq o), 0, none⟩)) ∧ W.cell? ⟨b1, 1, none⟩ = some (.int .i64 (toV c o)) ∧ W.cell? ⟨b1, 2, none⟩ = some (.slice la ln lc)) := by
    rw [hW, ← hb1]
    exact ⟨by simp, by simp, by simp⟩
  have HN : Hid (NIn W F FH FR B ph pr c s m) := h.below HB.out
  have HT1 : Hid (TickAt (fun j => Z j ∨ j = b1) w0 F0 W F (B .p) c s m bx os) := T.wider HB.out (fun j e => e.imp id (fun e => by rw [hW, World.size_alloc]; omega))
  obtain ⟨pc, _, _, h6⟩ := h.c6
  have hoP : (o : Int) < (c.P : Int) := by omega
  have hiP : (i : Int) < (c.P : Int) := by omega
  have x0 := hrw.1
  have x1 := hrw.2
  have lw0 : b1 < W.heap.size := cell_lt HTo0.out.1
  clear T h hl hml hxk hQne hz hlw hrw hne
  go_enter Tryz.func107, Tryz.ntmps107
  go_upto_region 1 with fail
  rw [← hW]
  clear hW h6 x0 x1 hlv
  obtain ⟨t0, t1, t2⟩ := HTo0.out
  go_region_held3 (fun w' => w'.cell? ⟨b1, 0, none⟩ = some (.pointer (some ⟨B (.wq o), 0, none⟩))) (first | exact CK2.out | exact CK1.out | exact HTo0.out.1 | go_keep)
    (first
      | (go_at_call 172; refine (nmay_any (HN.out.below (K.drewN_below _ 1)) (by omega) hi ho HZ.out).mono ?_; rintro e u ⟨rfl, hB1⟩; have HN1 : Hid (NIn u F FH FR B ph pr c s m) := (HN.out.below (K.drewN_below _ 1)).below hB1; have HTk1 : Hid (TickAt (fun j => Z j ∨ j = b1) w0 F0 u F (B .p) c s m bx os) := (HT1.out.on (K.drewN_below _ 1)).on hB1; have HTo1 : Hid (u.cell? ⟨b1, 0, none⟩ = some (.pointer (some ⟨B (.wq o), 0, none⟩)) ∧ u.cell? ⟨b1, 1, none⟩ = some (.int .i64 (toV c o)) ∧ u.cell? ⟨b1, 2, none⟩ = some (.slice la ln lc)) := ⟨(hB1.cell (p := ⟨b1, 0, none⟩) lw0).trans HTo0.out.1, (hB1.cell (p := ⟨b1, 1, none⟩) lw0).trans HTo0.out.2.1, (hB1.cell (p := ⟨b1, 2, none⟩) lw0).trans HTo0.out.2.2⟩; have CK1 : Hid (u.cell? ⟨b1, 0, none⟩ = some (.pointer (some ⟨B (.wq o), 0, none⟩))) := HTo1.out.1; have HB1 : Hid (Below w.heap.size w u) := later HB.out (later (K.drewN_below W 1) hB1); clear hB1)
      | (go_at_call 173; refine (wpick_any (HN1.out.whl o ho) z hz16).mono ?_; rintro e u2 ⟨he, hw2, hs2⟩; rw [← HZ.out, HL.out] at he; subst he; rw [← HZ.out] at hw2; have HN2 : Hid (NIn u2 F FH FR B ph pr c (goneA c s i o) m) := HN1.out.upWhl ho hs2 hw2; have HTk2 : Hid (TickAt (fun j => Z j ∨ j = b1) w0 F0 u2 F (B .p) c (goneA c s i o) m bx os ∧ Sans (fun j => ¬ (Z j ∨ j = b1)) u u2) := HTk1.out.turn ⟨_, _, _, _, _, rfl, HN2.out⟩ ⟨hs2.mono (fun j e => e.elim (fun e => by rw [e]; exact (HN1.out.own (.wq o) ho).1) (fun e => by rw [e]; exact (HN1.out.own (.fb o) ho).1)), fun j hj => .inl hj⟩; have lu : b1 < u.heap.size := cell_lt CK1.out; have HTo2 : Hid (u2.cell? ⟨b1, 0, none⟩ = some (.pointer (some ⟨B (.wq o), 0, none⟩)) ∧ u2.cell? ⟨b1, 1, none⟩ = some (.int .i64 (toV c o)) ∧ u2.cell? ⟨b1, 2, none⟩ = some (.slice la ln lc)) := ⟨(HTk2.out.2.cell (p := ⟨b1, 0, none⟩) lu (fun e => e (.inr rfl))).trans HTo1.out.1, (HTk2.out.2.cell (p := ⟨b1, 1, none⟩) lu (fun e => e (.inr rfl))).trans HTo1.out.2.1, (HTk2.out.2.cell (p := ⟨b1, 2, none⟩) lu (fun e => e (.inr rfl))).trans HTo1.out.2.2⟩; have CK2 : Hid (u2.cell? ⟨b1, 0, none⟩ = some (.pointer (some ⟨B (.wq o), 0, none⟩))) := HTo2.out.1; have HS2 : Hid (Sans (fun j => ¬ Z j) w u2) := (Sans.of_below HB1.out).then (HTk2.out.2.mono (fun j e => fun e2 => e (.inl e2))); clear hw2 hs2 lu))
  have k9 := HN2.out.c9
  go_wp2_with fail
  refine (K.rpop_any HN2.out.rings (by omega) (i : Nat) (o : Nat) (l : Nat) (wf3 (by omega) (by omega) (by omega)) ⟨xs, xd, xl, xb⟩ true HQ.out.2 HQ.out.1).mono ?_
  rintro e u3 ⟨rfl, hr3, hs3⟩
  have hQ3 : ∀ q, ∀ x ∈ K.upd s.Q ((i : Nat), (o : Nat), (l : Nat)) (s.Q ((i : Nat), (o : Nat), (l : Nat))).tail q, 0 ≤ x.b ∧ x.b < 4294967296 := by
    intro q x hx
    by_cases e : q = (((i : Nat) : Int), ((o : Nat) : Int), ((l : Nat) : Int))
    · subst e
      rw [K.upd_same] at hx
      exact HN2.out.st.qd _ x (List.mem_of_mem_tail hx)
    · rw [K.upd_other _ _ e] at hx
      exact HN2.out.st.qd q x hx
  obtain ⟨n3, g3⟩ := HN2.out.upRings (FR' := FR) ⟨hs3, fun k hk => .inl hk⟩ hr3 hQ3
  have HN3 : Hid (NIn u3 (fun j => F j ∨ FR j) FH FR B ph pr c (goneB (goneA c s i o) i o l) (m + 1)) := n3
  have HTk3 : Hid (TickAt (fun j => Z j ∨ j = b1) w0 F0 u3 (fun j => F j ∨ FR j) (B .p) c (goneB (goneA c s i o) i o l) (m + 1) bx os ∧ Sans (fun j => ¬ (Z j ∨ j = b1)) u2 u3) := HTk2.out.1.turn ⟨_, _, _, _, _, rfl, n3⟩ g3
  have lu2 : b1 < u2.heap.size := cell_lt CK2.out
  have HTo3 : Hid (u3.cell? ⟨b1, 0, none⟩ = some (.pointer (some ⟨B (.wq o), 0, none⟩)) ∧ u3.cell? ⟨b1, 1, none⟩ = some (.int .i64 (toV c o)) ∧ u3.cell? ⟨b1, 2, none⟩ = some (.slice la ln lc)) := ⟨(HTk3.out.2.cell (p := ⟨b1, 0, none⟩) lu2 (fun e => e (.inr rfl))).trans HTo2.out.1, (HTk3.out.2.cell (p := ⟨b1, 1, none⟩) lu2 (fun e => e (.inr rfl))).trans HTo2.out.2.1, (HTk3.out.2.cell (p := ⟨b1, 2, none⟩) lu2 (fun e => e (.inr rfl))).trans HTo2.out.2.2⟩
  have HS3 : Hid (Sans (fun j => ¬ Z j) w u3) := HS2.out.then (HTk3.out.2.mono (fun j e => fun e2 => e (.inl e2)))
  obtain ⟨b2, hb2⟩ : ∃ b2, u3.heap.size = b2 := ⟨_, rfl⟩
  obtain ⟨X, hX⟩ : ∃ X, X = u3.alloc (.cells #[.int .i64 xs, .int .i64 xd, .int .i64 xl, .int .u32 (xb : Nat)] 25) := ⟨_, rfl⟩
  have hBX : Below u3.heap.size u3 X := by rw [hX]; exact fresh _ _
  have HPX : Hid (PkAt X b2 0 ⟨xs, xd, xl, xb⟩) := by rw [hX, ← hb2]; exact PkAt.new u3 ⟨xs, xd, xl, xb⟩
  have HNX : Hid (NIn X (fun j => F j ∨ FR j) FH FR B ph pr c (goneB (goneA c s i o) i o l) (m + 1)) := HN3.out.below hBX
  have HTX : Hid (TickAt (fun j => (Z j ∨ j = b1) ∨ j = b2) w0 F0 X (fun j => F j ∨ FR j) (B .p) c (goneB (goneA c s i o) i o l) (m + 1) bx os) := HTk3.out.1.wider hBX (fun j e => e.imp id (fun e => by rw [hX, World.size_alloc]; omega))
  have lu3 : b1 < u3.heap.size := cell_lt HTo3.out.1
  have HTo : Hid (X.cell? ⟨b1, 0, none⟩ = some (.pointer (some ⟨B (.wq o), 0, none⟩)) ∧ X.cell? ⟨b1, 1, none⟩ = some (.int .i64 (toV c o)) ∧ X.cell? ⟨b1, 2, none⟩ = some (.slice la ln lc)) := ⟨(hBX.cell (p := ⟨b1, 0, none⟩) lu3).trans HTo3.out.1, (hBX.cell (p := ⟨b1, 1, none⟩) lu3).trans HTo3.out.2.1, (hBX.cell (p := ⟨b1, 2, none⟩) lu3).trans HTo3.out.2.2⟩
  have HSX : Hid (Sans (fun j => ¬ Z j) w X) := HS3.out.then (Sans.of_below hBX)
  clear hr3 hs3 hQ3 n3 g3 lu2 lu3 k9 hBX t0 t1 t2
  go_upto_region 3 with fail
  rw [← hX]
  clear hX
  by_cases hi0 : i = 0
  · subst hi0
    have HN4 : Hid (NIn X (fun j => F j ∨ FR j) FH FR B ph pr c (goneC (goneB (goneA c s 0 o) 0 o l) 0 l) (m + 2)) := HNX.out.mono (by omega)
    have HT4 : Hid (TickAt (fun j => (Z j ∨ j = b1) ∨ j = b2) w0 F0 X (fun j => F j ∨ FR j) (B .p) c (goneC (goneB (goneA c s 0 o) 0 o l) 0 l) (m + 2) bx os) := HTX.out.mono (by omega)
    have HS4 : Hid (Sans (fun j => ¬ Z j) w X) := HSX.out
    obtain ⟨F4, hF4⟩ : ∃ F4, (fun j => F j ∨ FR j) = F4 := ⟨_, rfl⟩
    rw [hF4] at HN4 HT4
    clear hF4 HNX HTX
    obtain ⟨px0, px1, px2, px3⟩ := HPX.out
    simp only [Nat.zero_add] at px1 px2 px3
    by_cases ho0 : o = 0
    · have ho0' : ((o : Int) == 0) = true := by simp; omega
      have k8 := HN4.out.c8
      have HGo : Hid (pass c s 0 o = ({ goneC (goneB (goneA c s 0 o) 0 o l) 0 l with hG := (goneC (goneB (goneA c s 0 o) 0 o l) 0 l).hG ++ [⟨xs, xd, xl, xb⟩] }, [])) := HPs0.out ho0
      go_wp2_with fail
      go_region_held3 (fun w' => w'.cell? ⟨B .p, 8, none⟩ = some (.pointer (some ⟨ph, 0, none⟩)) ∧ w'.cell? ⟨b2, 0, none⟩ = some (.int .i64 xs) ∧ w'.cell? ⟨b2, 1, none⟩ = some (.int .i64 xd) ∧ w'.cell? ⟨b2, 2, none⟩ = some (.int .i64 xl) ∧ w'.cell? ⟨b2, 3, none⟩ = some (.int .u32 xb)) (first | exact CK5.out | go_keep)
        (first | (go_at_call 176; refine (ejected HT4.out HN4.out ⟨xs, xd, xl, xb⟩ hm (K.drewN_below _ 1)).mono ?_; rintro e u5 ⟨rfl, F5, t5, hc8, s5⟩; have HT5 : Hid (TickAt (fun j => (Z j ∨ j = b1) ∨ j = b2) w0 F0 u5 F5 (B .p) c { goneC (goneB (goneA c s 0 o) 0 o l) 0 l with hG := (goneC (goneB (goneA c s 0 o) 0 o l) 0 l).hG ++ [⟨xs, xd, xl, xb⟩] } (m + 4) bx os) := t5; have hpk5 := (HPX.out.below (K.drewN_below _ 1)).sans s5 (fun e => e (.inr rfl)); have CK5 : Hid (u5.cell? ⟨B .p, 8, none⟩ = some (.pointer (some ⟨ph, 0, none⟩)) ∧ u5.cell? ⟨b2, 0, none⟩ = some (.int .i64 xs) ∧ u5.cell? ⟨b2, 1, none⟩ = some (.int .i64 xd) ∧ u5.cell? ⟨b2, 2, none⟩ = some (.int .i64 xl) ∧ u5.cell? ⟨b2, 3, none⟩ = some (.int .u32 xb)) := ⟨hc8, hpk5.1, hpk5.2.1, hpk5.2.2.1, hpk5.2.2.2⟩; have HS5 : Hid (Sans (fun j => ¬ Z j) w u5) := HS4.out.then ((Sans.drewN X 1).then (s5.mono (fun j e => fun e2 => e (.inl (.inl e2))))); clear t5 hc8 s5 hpk5))
      go_wp2_with fail
      refine bodyPost_ret (results_none rfl _ _ _) rfl ?_
      rw [HGo.out, List.append_nil]
      exact ⟨rfl, F5, HT5.out.less (fun j e => .inl (.inl e)), HS5.out⟩
    · have ho1 : 1 ≤ o := by omega
      have ho0' : ((o : Int) == 0) = false := by simp; omega
      obtain ⟨lco, hlo⟩ : ∃ lco, Value.slice la ln lc = .slice (some ⟨B (.lb o), 0, none⟩) c.L lco := by
        rcases HV.out with ⟨e, _⟩ | ⟨_, lc, e⟩
        · omega
        · exact ⟨lc, e⟩
      obtain ⟨t0, t1, t2⟩ := HTo.out
      rw [hlo] at t2
      have hls := (HN4.out.lanes o l ho1 ho hlL).1
      have hlI : (l : Int) < (c.L : Int) := by omega
      have HNx : Hid _ := nexted HT4.out HN4.out ho1 ho hlL hm
      obtain ⟨q, hq⟩ : ∃ q, (goneC (goneB (goneA c s 0 o) 0 o l) 0 l).s o l = q := ⟨_, rfl⟩
      obtain ⟨n2, hn2⟩ : ∃ n2 : Nat, (sNum q % 65536).toNat = n2 := ⟨_, rfl⟩
      have HGo : Hid (pass c s 0 o = ({ goneC (goneB (goneA c s 0 o) 0 o l) 0 l with s := up2 (goneC (goneB (goneA c s 0 o) 0 o l) 0 l).s o l (sNext q) }, [(c.dst o, bytesOf ⟨1, l, n2, xa, xz, xb⟩)])) := by
        show _ = _
        have hq' : s.s o l = q := hq
        rw [HPs1.out ho0, hq']
        have e : out c o (dataF l (sNum q) ⟨xs, xd, xl, xb⟩) = (c.dst o, bytesOf ⟨1, l, n2, xa, xz, xb⟩) := by
          show (c.dst o, bytesOf (dataF l (sNum q) ⟨xs, xd, xl, xb⟩)) = _
          unfold dataF
          simp only [hn2, HXa.out, HXz.out, Int.toNat_natCast]
        rw [e]
        rfl
      have HW : Hid (IntKind.u8.wrap (l : Int) = (l : Int) ∧ IntKind.u16.wrap (sNum q) = (n2 : Int) ∧ IntKind.u8.wrap xs = (xa : Int) ∧ IntKind.u8.wrap xd = (xz : Int)) := by
        have h1 := HXa.out
        have h2 := HXz.out
        refine ⟨?_, ?_, ?_, ?_⟩
        · rw [IntKind.wrap_u8]; omega
        · rw [IntKind.wrap_u16]; omega
        · rw [IntKind.wrap_u8]; omega
        · rw [IntKind.wrap_u8]; omega
      have HOk : Hid (Wire.Fr.ok ⟨1, l, n2, xa, xz, xb⟩) := by
        have h1 := HXa.out
        have h2 := HXz.out
        have h3 := HXb.out
        show Wire.Fr.ok _
        unfold Wire.Fr.ok
        simp only
        omega
      rw [hq] at HNx
      have hto : toV c o = c.dst o := if_neg ho0
      rw [hto] at t1
      have HT : Hid (X.cell? ⟨b1, 0, none⟩ = some (.pointer (some ⟨B (.wq o), 0, none⟩)) ∧ X.cell? ⟨b1, 1, none⟩ = some (.int .i64 (c.dst o)) ∧ X.cell? ⟨b1, 2, none⟩ = some (.slice (some ⟨B (.lb o), 0, none⟩) c.L lco)) := ⟨t0, t1, t2⟩
      clear hq hn2 hto hlo
      go_wp2_with fail
      refine Calls.mono HNx.out ?_
      rintro e u5 ⟨⟨b5, rfl⟩, t5, s5⟩
      have HT5 : Hid (TickAt (fun j => (Z j ∨ j = b1) ∨ j = b2) w0 F0 u5 F4 (B .p) c { goneC (goneB (goneA c s 0 o) 0 o l) 0 l with s := up2 (goneC (goneB (goneA c s 0 o) 0 o l) 0 l).s o l (sNext q) } (m + 3) bx os) := t5
      have HS5 : Hid (Sans (fun j => ¬ Z j) w u5) := HS4.out.then (s5.mono (fun j e => fun e2 => e (.inl (.inl e2))))
      have hpk5 := HPX.out.sans s5 (fun e => e (.inr rfl))
      have hb1n : ¬ ¬ ((Z b1 ∨ b1 = b1) ∨ b1 = b2) := fun e => e (.inl (.inr rfl))
      have lb1 : b1 < X.heap.size := cell_lt HT.out.1
      have HTx : Hid (u5.cell? ⟨b1, 0, none⟩ = some (.pointer (some ⟨B (.wq o), 0, none⟩)) ∧ u5.cell? ⟨b1, 1, none⟩ = some (.int .i64 (c.dst o)) ∧ u5.cell? ⟨b1, 2, none⟩ = some (.slice (some ⟨B (.lb o), 0, none⟩) c.L lco)) :=
        ⟨(s5.cell (p := ⟨b1, 0, none⟩) lb1 hb1n).trans HT.out.1, (s5.cell (p := ⟨b1, 1, none⟩) lb1 hb1n).trans HT.out.2.1, (s5.cell (p := ⟨b1, 2, none⟩) lb1 hb1n).trans HT.out.2.2⟩
      clear t5 s5 px0 px1 px2 px3 t0 t1 t2 hls HNx HPX HT
      obtain ⟨px0, px1, px2, px3⟩ := hpk5
      simp only [Nat.zero_add] at px1 px2 px3
      obtain ⟨t0, t1, t2⟩ := HTx.out
      obtain ⟨w1, w2, w3, w4⟩ := HW.out
      obtain ⟨sn, hsn⟩ : ∃ sn, sNum q = sn := ⟨_, rfl⟩
      rw [hsn] at w2 ⊢
      have HLy : Hid _ := HT5.out.lay (by omega) (.pointer (some ⟨B (.wq o), 0, none⟩)) (.slice (some ⟨B (.lb o), 0, none⟩) c.L lco) (c.dst o) HOk.out
      unfold fr at HLy
      simp only at HLy
      clear hsn
      go_wp2_with fail
      refine Calls.mono HLy.out ?_
      rintro e u6 ⟨rfl, t6, s6⟩
      have HT6 : Hid (TickAt (fun j => (Z j ∨ j = b1) ∨ j = b2) w0 F0 u6 F4 (B .p) c { goneC (goneB (goneA c s 0 o) 0 o l) 0 l with s := up2 (goneC (goneB (goneA c s 0 o) 0 o l) 0 l).s o l (sNext q) } (m + 3) bx (os ++ [(c.dst o, bytesOf ⟨1, l, n2, xa, xz, xb⟩)])) := t6
      have HS6 : Hid (Sans (fun j => ¬ Z j) w u6) := HS5.out.then (s6.mono (fun j e => fun e2 => e (.inl (.inl e2))))
      clear t6 s6
      go_wp2_with fail
      refine bodyPost_end (results_none rfl _ _ _) rfl ?_
      rw [HGo.out]
      exact ⟨rfl, F4, (HT6.out.less (fun j e => .inl (.inl e))).mono (by omega), HS6.out⟩
  · have hi1 : 1 ≤ i := by omega
    have hi0' : ((i : Int) == 0) = false := by simp; omega
    obtain ⟨lci, k62⟩ := HNX.out.rowl i hi1 hi
    have k63 := (HNX.out.lanes i l hi1 hi hlL).2
    obtain ⟨pc2, _, _, k6⟩ := HNX.out.c6
    have hlI2 : (l : Int) < (c.L : Int) := by omega
    have hgC : goneC (goneB (goneA c s i o) i o l) i l = { goneB (goneA c s i o) i o l with r := up2 (goneB (goneA c s i o) i o l).r i l (rFree ((goneB (goneA c s i o) i o l).r i l)) } := by
      unfold goneC
      simp only [if_neg hi0]
    go_wp2_with fail
    refine (nfree_any (R := c.room) (HNX.out.rcv i l hi1 hi hlL)).mono ?_
    rintro e u4 ⟨⟨b4, rfl⟩, hv4, hs4⟩
    have hle : (rFree ((goneB (goneA c s i o) i o l).r i l)).1 = ((goneB (goneA c s i o) i o l).r i l).1 := by unfold rFree; split <;> rfl
    have n4 := HNX.out.upRcv (v := rFree ((goneB (goneA c s i o) i o l).r i l)) hi1 hi hlL hs4 hv4 (by rw [hle]; have := HNX.out.st.rn i l hi1 hi hlL; omega)
    rw [← hgC] at n4
    have hFx := (HNX.out.own (.rq i l) ⟨hi1, hi, hlL⟩).1
    obtain ⟨t4, s4⟩ := HTX.out.turn (F' := fun j => F j ∨ FR j) ⟨_, _, _, _, _, rfl, n4⟩ ⟨hs4.mono (fun j e => by rw [e]; exact hFx), fun j hj => .inl hj⟩
    have HN4 : Hid (NIn u4 (fun j => F j ∨ FR j) FH FR B ph pr c (goneC (goneB (goneA c s i o) i o l) i l) (m + 2)) := n4
    have HT4 : Hid (TickAt (fun j => (Z j ∨ j = b1) ∨ j = b2) w0 F0 u4 (fun j => F j ∨ FR j) (B .p) c (goneC (goneB (goneA c s i o) i o l) i l) (m + 2) bx os) := t4
    have HS4 : Hid (Sans (fun j => ¬ Z j) w u4) := HSX.out.then (s4.mono (fun j e => fun e2 => e (.inl (.inl e2))))
    have lX : b1 < X.heap.size := cell_lt HTo.out.1
    have HTo4 : Hid (u4.cell? ⟨b1, 0, none⟩ = some (.pointer (some ⟨B (.wq o), 0, none⟩)) ∧ u4.cell? ⟨b1, 1, none⟩ = some (.int .i64 (toV c o)) ∧ u4.cell? ⟨b1, 2, none⟩ = some (.slice la ln lc)) := ⟨(s4.cell (p := ⟨b1, 0, none⟩) lX (fun e => e (.inl (.inr rfl)))).trans HTo.out.1, (s4.cell (p := ⟨b1, 1, none⟩) lX (fun e => e (.inl (.inr rfl)))).trans HTo.out.2.1, (s4.cell (p := ⟨b1, 2, none⟩) lX (fun e => e (.inl (.inr rfl)))).trans HTo.out.2.2⟩
    have HPX4 : Hid (PkAt u4 b2 0 ⟨xs, xd, xl, xb⟩) := HPX.out.sans s4 (fun e => e (.inr rfl))
    clear HTo HPX hgC hle hFx t4 s4 hv4 hs4 n4 k62 k63 k6 lX
    have HTo : Hid (u4.cell? ⟨b1, 0, none⟩ = some (.pointer (some ⟨B (.wq o), 0, none⟩)) ∧ u4.cell? ⟨b1, 1, none⟩ = some (.int .i64 (toV c o)) ∧ u4.cell? ⟨b1, 2, none⟩ = some (.slice la ln lc)) := HTo4.out
    have HPX : Hid (PkAt u4 b2 0 ⟨xs, xd, xl, xb⟩) := HPX4.out
    obtain ⟨F4, hF4⟩ : ∃ F4, (fun j => F j ∨ FR j) = F4 := ⟨_, rfl⟩
    rw [hF4] at HN4 HT4
    clear hF4 HNX HTX HTo4 HPX4
    obtain ⟨px0, px1, px2, px3⟩ := HPX.out
    simp only [Nat.zero_add] at px1 px2 px3
    by_cases ho0 : o = 0
    · have ho0' : ((o : Int) == 0) = true := by simp; omega
      have k8 := HN4.out.c8
      have HGo : Hid (pass c s i o = ({ goneC (goneB (goneA c s i o) i o l) i l with hG := (goneC (goneB (goneA c s i o) i o l) i l).hG ++ [⟨xs, xd, xl, xb⟩] }, [])) := HPs0.out ho0
      go_wp2_with fail
      go_region_held3 (fun w' => w'.cell? ⟨B .p, 8, none⟩ = some (.pointer (some ⟨ph, 0, none⟩)) ∧ w'.cell? ⟨b2, 0, none⟩ = some (.int .i64 xs) ∧ w'.cell? ⟨b2, 1, none⟩ = some (.int .i64 xd) ∧ w'.cell? ⟨b2, 2, none⟩ = some (.int .i64 xl) ∧ w'.cell? ⟨b2, 3, none⟩ = some (.int .u32 xb)) (first | exact CK5.out | go_keep)
        (first | (go_at_call 176; refine (ejected HT4.out HN4.out ⟨xs, xd, xl, xb⟩ hm (K.drewN_below _ 1)).mono ?_; rintro e u5 ⟨rfl, F5, t5, hc8, s5⟩; have HT5 : Hid (TickAt (fun j => (Z j ∨ j = b1) ∨ j = b2) w0 F0 u5 F5 (B .p) c { goneC (goneB (goneA c s i o) i o l) i l with hG := (goneC (goneB (goneA c s i o) i o l) i l).hG ++ [⟨xs, xd, xl, xb⟩] } (m + 4) bx os) := t5; have hpk5 := (HPX.out.below (K.drewN_below _ 1)).sans s5 (fun e => e (.inr rfl)); have CK5 : Hid (u5.cell? ⟨B .p, 8, none⟩ = some (.pointer (some ⟨ph, 0, none⟩)) ∧ u5.cell? ⟨b2, 0, none⟩ = some (.int .i64 xs) ∧ u5.cell? ⟨b2, 1, none⟩ = some (.int .i64 xd) ∧ u5.cell? ⟨b2, 2, none⟩ = some (.int .i64 xl) ∧ u5.cell? ⟨b2, 3, none⟩ = some (.int .u32 xb)) := ⟨hc8, hpk5.1, hpk5.2.1, hpk5.2.2.1, hpk5.2.2.2⟩; have HS5 : Hid (Sans (fun j => ¬ Z j) w u5) := HS4.out.then ((Sans.drewN u4 1).then (s5.mono (fun j e => fun e2 => e (.inl (.inl e2))))); clear t5 hc8 s5 hpk5))
      go_wp2_with fail
      refine bodyPost_ret (results_none rfl _ _ _) rfl ?_
      rw [HGo.out, List.append_nil]
      exact ⟨rfl, F5, HT5.out.less (fun j e => .inl (.inl e)), HS5.out⟩
    · have ho1 : 1 ≤ o := by omega
      have ho0' : ((o : Int) == 0) = false := by simp; omega
      obtain ⟨lco, hlo⟩ : ∃ lco, Value.slice la ln lc = .slice (some ⟨B (.lb o), 0, none⟩) c.L lco := by
        rcases HV.out with ⟨e, _⟩ | ⟨_, lc, e⟩
        · omega
        · exact ⟨lc, e⟩
      obtain ⟨t0, t1, t2⟩ := HTo.out
      rw [hlo] at t2
      have hls := (HN4.out.lanes o l ho1 ho hlL).1
      have hlI : (l : Int) < (c.L : Int) := by omega
      have HNx : Hid _ := nexted HT4.out HN4.out ho1 ho hlL hm
      obtain ⟨q, hq⟩ : ∃ q, (goneC (goneB (goneA c s i o) i o l) i l).s o l = q := ⟨_, rfl⟩
      obtain ⟨n2, hn2⟩ : ∃ n2 : Nat, (sNum q % 65536).toNat = n2 := ⟨_, rfl⟩
      have HGo : Hid (pass c s i o = ({ goneC (goneB (goneA c s i o) i o l) i l with s := up2 (goneC (goneB (goneA c s i o) i o l) i l).s o l (sNext q) }, [(c.dst o, bytesOf ⟨1, l, n2, xa, xz, xb⟩)])) := by
        show _ = _
        have hq' : s.s o l = q := hq
        rw [HPs1.out ho0, hq']
        have e : out c o (dataF l (sNum q) ⟨xs, xd, xl, xb⟩) = (c.dst o, bytesOf ⟨1, l, n2, xa, xz, xb⟩) := by
          show (c.dst o, bytesOf (dataF l (sNum q) ⟨xs, xd, xl, xb⟩)) = _
          unfold dataF
          simp only [hn2, HXa.out, HXz.out, Int.toNat_natCast]
        rw [e]
        rfl
      have HW : Hid (IntKind.u8.wrap (l : Int) = (l : Int) ∧ IntKind.u16.wrap (sNum q) = (n2 : Int) ∧ IntKind.u8.wrap xs = (xa : Int) ∧ IntKind.u8.wrap xd = (xz : Int)) := by
        have h1 := HXa.out
        have h2 := HXz.out
        refine ⟨?_, ?_, ?_, ?_⟩
        · rw [IntKind.wrap_u8]; omega
        · rw [IntKind.wrap_u16]; omega
        · rw [IntKind.wrap_u8]; omega
        · rw [IntKind.wrap_u8]; omega
      have HOk : Hid (Wire.Fr.ok ⟨1, l, n2, xa, xz, xb⟩) := by
        have h1 := HXa.out
        have h2 := HXz.out
        have h3 := HXb.out
        show Wire.Fr.ok _
        unfold Wire.Fr.ok
        simp only
        omega
      rw [hq] at HNx
      have hto : toV c o = c.dst o := if_neg ho0
      rw [hto] at t1
      have HT : Hid (u4.cell? ⟨b1, 0, none⟩ = some (.pointer (some ⟨B (.wq o), 0, none⟩)) ∧ u4.cell? ⟨b1, 1, none⟩ = some (.int .i64 (c.dst o)) ∧ u4.cell? ⟨b1, 2, none⟩ = some (.slice (some ⟨B (.lb o), 0, none⟩) c.L lco)) := ⟨t0, t1, t2⟩
      clear hq hn2 hto hlo
      go_wp2_with fail
      refine Calls.mono HNx.out ?_
      rintro e u5 ⟨⟨b5, rfl⟩, t5, s5⟩
      have HT5 : Hid (TickAt (fun j => (Z j ∨ j = b1) ∨ j = b2) w0 F0 u5 F4 (B .p) c { goneC (goneB (goneA c s i o) i o l) i l with s := up2 (goneC (goneB (goneA c s i o) i o l) i l).s o l (sNext q) } (m + 3) bx os) := t5
      have HS5 : Hid (Sans (fun j => ¬ Z j) w u5) := HS4.out.then (s5.mono (fun j e => fun e2 => e (.inl (.inl e2))))
      have hpk5 := HPX.out.sans s5 (fun e => e (.inr rfl))
      have hb1n : ¬ ¬ ((Z b1 ∨ b1 = b1) ∨ b1 = b2) := fun e => e (.inl (.inr rfl))
      have lb1 : b1 < u4.heap.size := cell_lt HT.out.1
      have HTx : Hid (u5.cell? ⟨b1, 0, none⟩ = some (.pointer (some ⟨B (.wq o), 0, none⟩)) ∧ u5.cell? ⟨b1, 1, none⟩ = some (.int .i64 (c.dst o)) ∧ u5.cell? ⟨b1, 2, none⟩ = some (.slice (some ⟨B (.lb o), 0, none⟩) c.L lco)) :=
        ⟨(s5.cell (p := ⟨b1, 0, none⟩) lb1 hb1n).trans HT.out.1, (s5.cell (p := ⟨b1, 1, none⟩) lb1 hb1n).trans HT.out.2.1, (s5.cell (p := ⟨b1, 2, none⟩) lb1 hb1n).trans HT.out.2.2⟩
      clear t5 s5 px0 px1 px2 px3 t0 t1 t2 hls HNx HPX HT
      obtain ⟨px0, px1, px2, px3⟩ := hpk5
      simp only [Nat.zero_add] at px1 px2 px3
      obtain ⟨t0, t1, t2⟩ := HTx.out
      obtain ⟨w1, w2, w3, w4⟩ := HW.out
      obtain ⟨sn, hsn⟩ : ∃ sn, sNum q = sn := ⟨_, rfl⟩
      rw [hsn] at w2 ⊢
      have HLy : Hid _ := HT5.out.lay (by omega) (.pointer (some ⟨B (.wq o), 0, none⟩)) (.slice (some ⟨B (.lb o), 0, none⟩) c.L lco) (c.dst o) HOk.out
      unfold fr at HLy
      simp only at HLy
      clear hsn
      go_wp2_with fail
      refine Calls.mono HLy.out ?_
      rintro e u6 ⟨rfl, t6, s6⟩
      have HT6 : Hid (TickAt (fun j => (Z j ∨ j = b1) ∨ j = b2) w0 F0 u6 F4 (B .p) c { goneC (goneB (goneA c s i o) i o l) i l with s := up2 (goneC (goneB (goneA c s i o) i o l) i l).s o l (sNext q) } (m + 3) bx (os ++ [(c.dst o, bytesOf ⟨1, l, n2, xa, xz, xb⟩)])) := t6
      have HS6 : Hid (Sans (fun j => ¬ Z j) w u6) := HS5.out.then (s6.mono (fun j e => fun e2 => e (.inl (.inl e2))))
      clear t6 s6
      go_wp2_with fail
      refine bodyPost_end (results_none rfl _ _ _) rfl ?_
      rw [HGo.out]
      exact ⟨rfl, F4, (HT6.out.less (fun j e => .inl (.inl e))).mono (by omega), HS6.out⟩
end
end Nd
end Go.Proofs.YtniicgbkeifnjaaGreatDoor
