/-
  Contracts and plain facts that the walks lean on (NodeI, NodeJ). Conditions: none but those that each states.
-/
import Derived.Test.YtniicgbkeifnjaaGreatDoorQ39
namespace Go.Proofs.YtniicgbkeifnjaaGreatDoor
open Go.ChangeShapes Go.WideShapes Go.ChangeAt Go.RowKit
set_option linter.unusedVariables false
set_option maxRecDepth 100000
namespace Nd
theorem tellTo_len (c : Cfg) (s : St) (o : Nat) : ∀ l, (tellTo c s o l).length = 2 * l
  | 0 => rfl
  | l + 1 => by
    rw [tellTo, List.length_append, tellTo_len c s o l]
    simp [tell1]
    omega
theorem tellAll_len (c : Cfg) (s : St) : ∀ k, (tellAll c s k).length = k * (2 * c.L)
  | 0 => by simp [tellAll]
  | k + 1 => by
    rw [tellAll, List.length_append, tellAll_len c s k, tellTo_len]
    exact (Nat.succ_mul k (2 * c.L)).symm
section
variable {Z Z' F0 F FH FR : Nat → Prop} {w0 w w' : World} {B : Lb → Nat} {ph pr m bx p : Nat} {c : Cfg} {s : St} {os : Outs}
theorem TickAt.lay2 (T : TickAt Z w0 F0 w F (B .p) c s m bx os) (h : NIn w F FH FR B ph pr c s m) (hos : os.length ≤ 1000) (a0 lv : Value) (dst : Int) {f : Wire.Fr} (hok : f.ok) {u : World} (hB : Below w.heap.size w u) :
    Calls Tryz.prog 45 #[.agg #[a0, .int .i64 dst, lv], fr f, .pointer (some ⟨bx, 0, none⟩)] u fun e w' => e = .returned (.tuple #[]) ∧ TickAt Z w0 F0 w' F (B .p) c s m bx (os ++ [(dst, bytesOf f)]) ∧ NIn w' F FH FR B ph pr c s m ∧ Sans (fun j => ¬ Z j) u w' := by
  have T := T.on hB
  have h := h.below hB
  obtain ⟨v, G, h1, h2, h3, h4, h5, h6, h7, h8, h9, h10, h11⟩ := T
  refine (lay_any h2 h3 h4 h5 hos a0 lv dst hok).mono ?_
  rintro e w' ⟨he, v', G', k1, k2, k3, k4, k5⟩
  have hb : bx < u.heap.size := cell_lt h2
  have hw : w0.heap.size ≤ u.heap.size := h9.size
  have hE : ∀ j, (j = bx ∨ G j) → w0.heap.size ≤ j := fun j hj => hj.elim (fun e => by omega) (fun e => (h6 j e).2)
  have hd : ∀ j, F j → ¬ (j = bx ∨ G j) := fun j hj e => e.elim (fun e => h7 (e ▸ hj)) (fun e => (h6 j e).1 hj)
  refine ⟨he, ⟨v', G', h1.sans k5 hd, k1, k2, k3, fun e => (k4 bx e).elim h5 (fun e => by omega), fun j hj => (k4 j hj).elim (h6 j) (fun e => ⟨fun e2 => by have := h1.foot j e2; omega, by omega⟩), h7, h8, h9.trans k5 (fun j hj => .inr (hE j hj)), h10, fun j hj => ⟨Nat.lt_of_lt_of_le (h11 j hj).1 k5.size, (h11 j hj).2.1, fun e => (k4 j e).elim (h11 j hj).2.2.1 (fun e => by have := (h11 j hj).1; omega), (h11 j hj).2.2.2⟩⟩, h.sans k5 hd, k5.mono (fun j hj e => hj.elim (h11 j e).2.2.2 (h11 j e).2.2.1)⟩
theorem nlimit_any {u : World} {q : Nat} {n r h l : Int} (k : Bf.Rcv u q n r h) (hn : n ≤ 9223372036854775807) (hl : n + (r - h) = l) :
    Calls Tryz.prog 108 #[.pointer (some ⟨q, 0, none⟩)] u fun e w' => e = .returned (.int .u64 l) ∧ Below u.heap.size u w' :=
  (Bf.limit_any k hn l hl).mono fun e w' ⟨he, j, hw⟩ => ⟨he, by subst hw; exact K.drewN_below _ _⟩
theorem tell_ok {k l : Nat} {n : Int} (hk : k < 256) (hl : l < 256) : (tellF k l n).ok := by
  unfold tellF Wire.Fr.ok
  simp only
  omega
set_option maxHeartbeats 16000000 in
set_option maxRecDepth 100000 in
theorem exchange_any (T : TickAt Z w0 F0 w F p c s m bx os) (hm : m ≤ 90000) (hos : os.length ≤ 900) :
    Calls Tryz.prog 49 #[.pointer (some ⟨p, 0, none⟩), .func (Fn.func 45) #[] #[.pointer (some ⟨bx, 0, none⟩)]] w fun e w' => e = .returned (.tuple #[]) ∧ TickAt Z w0 F0 w' F p c s m bx (os ++ tellAll c s c.bs.length) ∧ Sans (fun j => ¬ Z j) w w' := by
  obtain ⟨FH, FR, B, ph, pr, rfl, hn⟩ := T.node
  have hP := hn.cfg.P6
  have hP2 := hn.cfg.P2
  have hL := hn.cfg.L3
  have HN : Hid (NIn w F FH FR B ph pr c s m) := hn
  have HT : Hid (TickAt Z w0 F0 w F (B .p) c s m bx os) := T
  obtain ⟨pc, hpc1, hpc2, h6⟩ := hn.c6
  obtain ⟨N, hNe⟩ : ∃ N, c.bs.length = N := ⟨_, rfl⟩
  have hPN : c.P = N + 1 := by unfold Cfg.P; rw [hNe]
  have HP : Hid (c.P = N + 1) := hPN
  obtain ⟨C0, hK⟩ : ∃ C0, pc = C0 + 1 := ⟨pc - 1, by omega⟩
  subst hK
  rw [hPN] at h6 hP hpc1 hP2
  have hNK : N ≤ C0 := by omega
  have hK1 : ¬ C0 + 1 = 1 := by omega
  have hK0 : ¬ C0 = 0 := by omega
  have hK63 : C0 + 1 ≤ 9223372036854775807 := by unfold maxLen at hpc2; omega
  obtain ⟨L, hLe⟩ : ∃ L, c.L = L := ⟨_, rfl⟩
  have HL : Hid (c.L = L) := hLe
  rw [hLe] at hL
  have HGo : Hid (os ++ tellAll c s c.bs.length = os ++ tellAll c s N) := by show _ = _; rw [hNe]
  clear T hn hpc1 hpc2 hPN hNe hLe
  go_enter Tryz.func49, Tryz.ntmps49
  go_wp2_with fail
  clear h6
  go_loopw [5, 14] (fun _ j wr => ∃ k : Nat, k ≤ N ∧ j = .int .i64 k ∧ TickAt Z w0 F0 wr F (B .p) c s m bx (os ++ tellAll c s k) ∧ NIn wr F FH FR B ph pr c s m ∧ Sans (fun j => ¬ Z j) w wr) (fun _ j _ => N - (intOf j).toNat)
  case atStart => exact ⟨0, Nat.zero_le _, rfl, by rw [show tellAll c s 0 = [] from rfl, List.append_nil]; exact HT.out, HN.out, Sans.refl _ _⟩
  case round =>
    obtain ⟨k, hk, rfl, t, n, sz⟩ := hrel
    have HT1 : Hid (TickAt Z w0 F0 wr F (B .p) c s m bx (os ++ tellAll c s k)) := t
    have HN1 : Hid (NIn wr F FH FR B ph pr c s m) := n
    have HS1 : Hid (Sans (fun j => ¬ Z j) w wr) := sz
    clear t n sz
    by_cases hkn : k < N
    · have hkP : k + 1 < c.P := by rw [HP.out]; omega
      have hrw := HN1.out.rows (k + 1) hkP
      obtain ⟨lc, hrl⟩ := HN1.out.rowl (k + 1) (by omega) hkP
      rw [show (k + 1) * 3 = 3 + k * 3 by omega] at hrw hrl
      rw [HL.out] at hrl
      obtain ⟨y0, y1⟩ := hrw
      have hto : toV c (k + 1) = c.dst (k + 1) := if_neg (by omega)
      rw [hto] at y1
      obtain ⟨ds, hds⟩ : ∃ ds, c.dst (k + 1) = ds := ⟨_, rfl⟩
      have HDs : Hid (c.dst (k + 1) = ds) := hds
      rw [hds] at y1
      obtain ⟨b1, hb1⟩ : ∃ b1, wr.heap.size = b1 := ⟨_, rfl⟩
      obtain ⟨X, hX⟩ : ∃ X, X = wr.alloc (.cells #[.pointer (some ⟨B (.wq (k + 1)), 0, none⟩), .int .i64 ds, .slice (some ⟨B (.lb (k + 1)), 0, none⟩) L lc] 113) := ⟨_, rfl⟩
      have hBX : Below wr.heap.size wr X := by rw [hX]; exact fresh _ _
      have HTo : Hid (X.cell? ⟨b1, 0, none⟩ = some (.pointer (some ⟨B (.wq (k + 1)), 0, none⟩)) ∧ X.cell? ⟨b1, 1, none⟩ = some (.int .i64 ds) ∧ X.cell? ⟨b1, 2, none⟩ = some (.slice (some ⟨B (.lb (k + 1)), 0, none⟩) L lc)) := by
        rw [hX, ← hb1]
        exact ⟨by simp, by simp, by simp⟩
      have HN2 : Hid (NIn X F FH FR B ph pr c s m) := HN1.out.below hBX
      have HT2 : Hid (TickAt (fun j => Z j ∨ j = b1) w0 F0 X F (B .p) c s m bx (os ++ tellAll c s k)) := HT1.out.wider hBX (fun j e => e.imp id (fun e => by rw [hX, World.size_alloc]; omega))
      have HS2 : Hid (Sans (fun j => ¬ Z j) w X) := HS1.out.then (Sans.of_below hBX)
      have hkI : (k : Int) < (N : Int) := by omega
      obtain ⟨A, hA⟩ : ∃ A, os ++ tellAll c s k = A := ⟨_, rfl⟩
      have HAl : Hid (A.length ≤ 940) := by
        show _ ≤ _
        have h1 := tellAll_len c s k
        rw [HL.out] at h1
        have h2 : k * (2 * L) ≤ 5 * 6 := Nat.mul_le_mul (by omega) (by omega)
        rw [← hA, List.length_append, h1]
        omega
      have HAn : Hid (A ++ tellTo c s (k + 1) L = os ++ tellAll c s (k + 1)) := by
        show _ = _
        rw [← hA, tellAll, HL.out, List.append_assoc]
      rw [hA] at HT2
      clear hBX hto hds hA
      go_upto_region 3 with fail
      rw [← hX]
      clear hX y0 y1 hrl
      obtain ⟨t0, t1, t2⟩ := HTo.out
      go_wp2_with fail
      clear t0 t1 t2
      go_loopw [6, 7, 21] (fun _ _ j wx => ∃ l : Nat, l ≤ L ∧ j = .int .i64 l ∧ TickAt (fun j => Z j ∨ j = b1) w0 F0 wx F (B .p) c s m bx (A ++ tellTo c s (k + 1) l) ∧ NIn wx F FH FR B ph pr c s m ∧ (wx.cell? ⟨b1, 0, none⟩ = some (.pointer (some ⟨B (.wq (k + 1)), 0, none⟩)) ∧ wx.cell? ⟨b1, 1, none⟩ = some (.int .i64 ds) ∧ wx.cell? ⟨b1, 2, none⟩ = some (.slice (some ⟨B (.lb (k + 1)), 0, none⟩) L lc)) ∧ Sans (fun j => ¬ Z j) w wx) (fun _ _ j _ => L - (intOf j).toNat)
      case atStart => exact ⟨0, Nat.zero_le _, rfl, by rw [show tellTo c s (k + 1) 0 = [] from rfl, List.append_nil]; exact HT2.out, HN2.out, HTo.out, HS2.out⟩
      case round =>
        obtain ⟨l, hl, rfl, t, n, hto, sz⟩ := hrel
        have HT3 : Hid (TickAt (fun j => Z j ∨ j = b1) w0 F0 wr F (B .p) c s m bx (A ++ tellTo c s (k + 1) l)) := t
        have HN3 : Hid (NIn wr F FH FR B ph pr c s m) := n
        have HTo3 : Hid (wr.cell? ⟨b1, 0, none⟩ = some (.pointer (some ⟨B (.wq (k + 1)), 0, none⟩)) ∧ wr.cell? ⟨b1, 1, none⟩ = some (.int .i64 ds) ∧ wr.cell? ⟨b1, 2, none⟩ = some (.slice (some ⟨B (.lb (k + 1)), 0, none⟩) L lc)) := hto
        have HS3 : Hid (Sans (fun j => ¬ Z j) w wr) := sz
        clear t n hto sz
        by_cases hln : l < L
        · have hlL : l < c.L := by rw [HL.out]; exact hln
          have hlI : (l : Int) < (L : Int) := by omega
          have h256 : l < 256 := by omega
          obtain ⟨z0, z1⟩ := HN3.out.lanes (k + 1) l (by omega) hkP hlL
          obtain ⟨b3, hb3⟩ : ∃ b3, wr.heap.size = b3 := ⟨_, rfl⟩
          obtain ⟨Y, hY⟩ : ∃ Y, Y = wr.alloc (.cells #[.pointer (some ⟨B (.sq (k + 1) l), 0, none⟩), .pointer (some ⟨B (.rq (k + 1) l), 0, none⟩)] 150) := ⟨_, rfl⟩
          have hBY : Below wr.heap.size wr Y := by rw [hY]; exact fresh _ _
          have HEn : Hid (Y.cell? ⟨b3, 0, none⟩ = some (.pointer (some ⟨B (.sq (k + 1) l), 0, none⟩)) ∧ Y.cell? ⟨b3, 1, none⟩ = some (.pointer (some ⟨B (.rq (k + 1) l), 0, none⟩))) := by
            rw [hY, ← hb3]
            exact ⟨by simp, by simp⟩
          have lb1 : b1 < wr.heap.size := cell_lt HTo3.out.1
          have HTo4 : Hid (Y.cell? ⟨b1, 0, none⟩ = some (.pointer (some ⟨B (.wq (k + 1)), 0, none⟩)) ∧ Y.cell? ⟨b1, 1, none⟩ = some (.int .i64 ds) ∧ Y.cell? ⟨b1, 2, none⟩ = some (.slice (some ⟨B (.lb (k + 1)), 0, none⟩) L lc)) := ⟨(hBY.cell (p := ⟨b1, 0, none⟩) lb1).trans HTo3.out.1, (hBY.cell (p := ⟨b1, 1, none⟩) lb1).trans HTo3.out.2.1, (hBY.cell (p := ⟨b1, 2, none⟩) lb1).trans HTo3.out.2.2⟩
          have HN4 : Hid (NIn Y F FH FR B ph pr c s m) := HN3.out.below hBY
          obtain ⟨A2, hA2⟩ : ∃ A2, A ++ tellTo c s (k + 1) l = A2 := ⟨_, rfl⟩
          have HA2 : Hid (A2.length ≤ 950) := by
            show _ ≤ _
            rw [← hA2, List.length_append, tellTo_len]
            have := HAl.out
            omega
          obtain ⟨S0, hS0⟩ : ∃ S0, (s.s (k + 1) l).1 = S0 := ⟨_, rfl⟩
          obtain ⟨R0, hR0⟩ : ∃ R0, (s.r (k + 1) l).1 + ((c.room : Int) - (s.r (k + 1) l).2) = R0 := ⟨_, rfl⟩
          have HR0 : Hid ((s.r (k + 1) l).1 + ((c.room : Int) - (s.r (k + 1) l).2) = R0) := hR0
          have HAn2 : Hid (A2 ++ [(ds, bytesOf (tellF 3 l S0))] ++ [(ds, bytesOf (tellF 2 l R0))] = A ++ tellTo c s (k + 1) (l + 1)) := by
            show _ = _
            rw [← hA2, tellTo, tell1, hS0, hR0]
            unfold out
            rw [HDs.out, List.append_assoc, List.append_assoc]
            rfl
          have HT4 : Hid (TickAt (fun j => (Z j ∨ j = b1) ∨ j = b3) w0 F0 Y F (B .p) c s m bx A2) := by rw [← hA2]; exact HT3.out.wider hBY (fun j e => e.imp id (fun e => by rw [hY, World.size_alloc]; omega))
          have HS4 : Hid (Sans (fun j => ¬ Z j) w Y) := HS3.out.then (Sans.of_below hBY)
          obtain ⟨n3, hn3⟩ : ∃ n3 : Nat, (S0 % 65536).toNat = n3 := ⟨_, rfl⟩
          obtain ⟨n2, hn2⟩ : ∃ n2 : Nat, (R0 % 65536).toNat = n2 := ⟨_, rfl⟩
          have HF3 : Hid (tellF 3 l S0 = ⟨3, l, n3, 0, 0, 0⟩) := by show _ = _; unfold tellF; rw [hn3]
          have HF2 : Hid (tellF 2 l R0 = ⟨2, l, n2, 0, 0, 0⟩) := by show _ = _; unfold tellF; rw [hn2]
          have HOk3 : Hid (Wire.Fr.ok ⟨3, l, n3, 0, 0, 0⟩) := by show Wire.Fr.ok _; rw [← HF3.out]; exact tell_ok (by omega) h256
          have HOk2 : Hid (Wire.Fr.ok ⟨2, l, n2, 0, 0, 0⟩) := by show Wire.Fr.ok _; rw [← HF2.out]; exact tell_ok (by omega) h256
          have w1 : IntKind.u8.wrap (l : Int) = (l : Int) := by rw [IntKind.wrap_u8]; omega
          have w3 : IntKind.u16.wrap S0 = (n3 : Int) := by rw [IntKind.wrap_u16]; omega
          have w2 : IntKind.u16.wrap R0 = (n2 : Int) := by rw [IntKind.wrap_u16]; omega
          have HSd : Hid (∀ u : World, NIn u F FH FR B ph pr c s m → Cr.Snd u (B (.sq (k + 1) l)) S0 (s.s (k + 1) l).2) := fun u h => by rw [← hS0]; exact h.snd (k + 1) l (by omega) hkP hlL
          have HRd : Hid (∀ u : World, NIn u F FH FR B ph pr c s m → Bf.Rcv u (B (.rq (k + 1) l)) (s.r (k + 1) l).1 (c.room : Nat) (s.r (k + 1) l).2) := fun u h => h.rcv (k + 1) l (by omega) hkP hlL
          have HRn : Hid ((s.r (k + 1) l).1 ≤ 9223372036854775807) := by have := HN3.out.st.rn (k + 1) l (by omega) hkP hlL; show _ ≤ _; omega
          have HRl : Hid (∀ u : World, NIn u F FH FR B ph pr c s m → Calls Tryz.prog 108 #[.pointer (some ⟨B (.rq (k + 1) l), 0, none⟩)] u fun e w' => e = .returned (.int .u64 R0) ∧ Below u.heap.size u w') := fun u h => nlimit_any (HRd.out u h) HRn.out HR0.out
          clear hBY lb1 hA2 hS0 hR0 hn3 hn2
          go_upto_region 6 with fail
          rw [← hY]
          clear hY z0 z1
          obtain ⟨t0, t1, t2⟩ := HTo4.out
          obtain ⟨e0, e1⟩ := HEn.out
          go_region_held3 (fun w' => w'.cell? ⟨b1, 0, none⟩ = some (.pointer (some ⟨B (.wq (k + 1)), 0, none⟩)) ∧ w'.cell? ⟨b1, 1, none⟩ = some (.int .i64 ds) ∧ w'.cell? ⟨b1, 2, none⟩ = some (.slice (some ⟨B (.lb (k + 1)), 0, none⟩) L lc) ∧ w'.cell? ⟨b3, 0, none⟩ = some (.pointer (some ⟨B (.sq (k + 1) l), 0, none⟩))) (first | exact CK5.out | go_keep)
            (first
              | (go_at_call 30; refine (Cr.ssent_any (HSd.out _ (HN4.out.below (K.drewN_below _ 1)))).mono ?_; rintro e v ⟨rfl, hq⟩; obtain rfl := hq.symm)
              | (go_at_call 45; refine (show Calls Tryz.prog _ #[.agg #[.pointer (some ⟨B (.wq (k + 1)), 0, none⟩), .int .i64 ds, .slice (some ⟨B (.lb (k + 1)), 0, none⟩) L lc], .agg #[.int .u8 3, .int .u8 l, .int .u16 n3, .int .u8 0, .int .u8 0, .int .u32 0], .pointer (some ⟨bx, 0, none⟩)] _ _ from HT4.out.lay2 HN4.out (by have := HA2.out; omega) _ _ ds HOk3.out (K.drewN_below _ 1)).mono ?_; rintro e u5 ⟨rfl, t5, n5, s5⟩; have HT5 : Hid (TickAt (fun j => (Z j ∨ j = b1) ∨ j = b3) w0 F0 u5 F (B .p) c s m bx (A2 ++ [(ds, bytesOf ⟨3, l, n3, 0, 0, 0⟩)])) := t5; have HN5 : Hid (NIn u5 F FH FR B ph pr c s m) := n5; have hc1 : b1 < Y.heap.size := cell_lt HTo4.out.1; have hc3 : b3 < Y.heap.size := cell_lt HEn.out.1; have HTo5 : Hid ((u5.cell? ⟨b1, 0, none⟩ = some (.pointer (some ⟨B (.wq (k + 1)), 0, none⟩)) ∧ u5.cell? ⟨b1, 1, none⟩ = some (.int .i64 ds) ∧ u5.cell? ⟨b1, 2, none⟩ = some (.slice (some ⟨B (.lb (k + 1)), 0, none⟩) L lc)) ∧ u5.cell? ⟨b3, 0, none⟩ = some (.pointer (some ⟨B (.sq (k + 1) l), 0, none⟩)) ∧ u5.cell? ⟨b3, 1, none⟩ = some (.pointer (some ⟨B (.rq (k + 1) l), 0, none⟩))) := ⟨⟨(s5.cell (p := ⟨b1, 0, none⟩) hc1 (fun e => e (.inl (.inr rfl)))).trans HTo4.out.1, (s5.cell (p := ⟨b1, 1, none⟩) hc1 (fun e => e (.inl (.inr rfl)))).trans HTo4.out.2.1, (s5.cell (p := ⟨b1, 2, none⟩) hc1 (fun e => e (.inl (.inr rfl)))).trans HTo4.out.2.2⟩, (s5.cell (p := ⟨b3, 0, none⟩) hc3 (fun e => e (.inr rfl))).trans HEn.out.1, (s5.cell (p := ⟨b3, 1, none⟩) hc3 (fun e => e (.inr rfl))).trans HEn.out.2⟩; have CK5 : Hid (u5.cell? ⟨b1, 0, none⟩ = some (.pointer (some ⟨B (.wq (k + 1)), 0, none⟩)) ∧ u5.cell? ⟨b1, 1, none⟩ = some (.int .i64 ds) ∧ u5.cell? ⟨b1, 2, none⟩ = some (.slice (some ⟨B (.lb (k + 1)), 0, none⟩) L lc) ∧ u5.cell? ⟨b3, 0, none⟩ = some (.pointer (some ⟨B (.sq (k + 1) l), 0, none⟩))) := ⟨HTo5.out.1.1, HTo5.out.1.2.1, HTo5.out.1.2.2, HTo5.out.2.1⟩; have HS5 : Hid (Sans (fun j => ¬ Z j) w u5) := HS4.out.then ((Sans.drewN Y 1).then (s5.mono (fun j e => fun e2 => e (.inl (.inl e2))))); clear t5 n5 s5 hc1 hc3))
          clear t0 t1 t2 e0 e1
          obtain ⟨⟨t0, t1, t2⟩, e0, e1⟩ := HTo5.out
          go_wp2_with fail
          go_region_held3 (fun w' => w'.cell? ⟨b1, 0, none⟩ = some (.pointer (some ⟨B (.wq (k + 1)), 0, none⟩)) ∧ w'.cell? ⟨b1, 1, none⟩ = some (.int .i64 ds) ∧ w'.cell? ⟨b1, 2, none⟩ = some (.slice (some ⟨B (.lb (k + 1)), 0, none⟩) L lc) ∧ w'.cell? ⟨b3, 1, none⟩ = some (.pointer (some ⟨B (.rq (k + 1) l), 0, none⟩))) (first | exact CK7.out | exact CK6.out | go_keep)
            (first
              | (go_at_call 108; refine Calls.mono (HRl.out _ (HN5.out.below (K.drewN_below u5 1))) ?_; rintro e v ⟨rfl, hq⟩; have HBv : Hid (Below u5.heap.size u5 v) := later (K.drewN_below u5 1) hq; have hv1 : b1 < u5.heap.size := cell_lt HTo5.out.1.1; have hv3 : b3 < u5.heap.size := cell_lt HTo5.out.2.1; have CK6 : Hid (v.cell? ⟨b1, 0, none⟩ = some (.pointer (some ⟨B (.wq (k + 1)), 0, none⟩)) ∧ v.cell? ⟨b1, 1, none⟩ = some (.int .i64 ds) ∧ v.cell? ⟨b1, 2, none⟩ = some (.slice (some ⟨B (.lb (k + 1)), 0, none⟩) L lc) ∧ v.cell? ⟨b3, 1, none⟩ = some (.pointer (some ⟨B (.rq (k + 1) l), 0, none⟩))) := ⟨(HBv.out.cell (p := ⟨b1, 0, none⟩) hv1).trans HTo5.out.1.1, (HBv.out.cell (p := ⟨b1, 1, none⟩) hv1).trans HTo5.out.1.2.1, (HBv.out.cell (p := ⟨b1, 2, none⟩) hv1).trans HTo5.out.1.2.2, (HBv.out.cell (p := ⟨b3, 1, none⟩) hv3).trans HTo5.out.2.2⟩; clear hq hv1 hv3)
              | (go_at_call 45; refine (show Calls Tryz.prog _ #[.agg #[.pointer (some ⟨B (.wq (k + 1)), 0, none⟩), .int .i64 ds, .slice (some ⟨B (.lb (k + 1)), 0, none⟩) L lc], .agg #[.int .u8 2, .int .u8 l, .int .u16 n2, .int .u8 0, .int .u8 0, .int .u32 0], .pointer (some ⟨bx, 0, none⟩)] _ _ from HT5.out.lay2 HN5.out (by have := HA2.out; rw [List.length_append, List.length_singleton]; omega) _ _ ds HOk2.out HBv.out).mono ?_; rintro e u6 ⟨rfl, t6, n6, s6⟩; have HT6 : Hid (TickAt (fun j => (Z j ∨ j = b1) ∨ j = b3) w0 F0 u6 F (B .p) c s m bx (A2 ++ [(ds, bytesOf ⟨3, l, n3, 0, 0, 0⟩)] ++ [(ds, bytesOf ⟨2, l, n2, 0, 0, 0⟩)])) := t6; have HN6 : Hid (NIn u6 F FH FR B ph pr c s m) := n6; have hc1 : b1 < v.heap.size := cell_lt CK6.out.1; have hc3 : b3 < v.heap.size := cell_lt CK6.out.2.2.2; have CK7 : Hid (u6.cell? ⟨b1, 0, none⟩ = some (.pointer (some ⟨B (.wq (k + 1)), 0, none⟩)) ∧ u6.cell? ⟨b1, 1, none⟩ = some (.int .i64 ds) ∧ u6.cell? ⟨b1, 2, none⟩ = some (.slice (some ⟨B (.lb (k + 1)), 0, none⟩) L lc) ∧ u6.cell? ⟨b3, 1, none⟩ = some (.pointer (some ⟨B (.rq (k + 1) l), 0, none⟩))) := ⟨(s6.cell (p := ⟨b1, 0, none⟩) hc1 (fun e => e (.inl (.inr rfl)))).trans CK6.out.1, (s6.cell (p := ⟨b1, 1, none⟩) hc1 (fun e => e (.inl (.inr rfl)))).trans CK6.out.2.1, (s6.cell (p := ⟨b1, 2, none⟩) hc1 (fun e => e (.inl (.inr rfl)))).trans CK6.out.2.2.1, (s6.cell (p := ⟨b3, 1, none⟩) hc3 (fun e => e (.inr rfl))).trans CK6.out.2.2.2⟩; have HS6 : Hid (Sans (fun j => ¬ Z j) w u6) := HS5.out.then ((Sans.of_below HBv.out).then (s6.mono (fun j e => fun e2 => e (.inl (.inl e2))))); clear t6 n6 s6 hc1 hc3))
          have HT7 : Hid (TickAt (fun j => Z j ∨ j = b1) w0 F0 u6 F (B .p) c s m bx (A ++ tellTo c s (k + 1) (l + 1))) := by
            show TickAt _ _ _ _ _ _ _ _ _ _ _
            rw [← HAn2.out, HF3.out, HF2.out]
            exact HT6.out.less (fun j e => .inl e)
          clear t0 t1 t2 e0 e1
          go_wp2_with fail
          go_roundw
          case rel => exact ⟨l + 1, by omega, by go_num, HT7.out, HN6.out, ⟨CK7.out.1, CK7.out.2.1, CK7.out.2.2.1⟩, HS6.out⟩
          case measure => simp [intOf]; omega
        · obtain rfl : l = L := by omega
          go_wp2_with fail
          go_roundw
          case rel => exact ⟨k + 1, by omega, by go_num, by rw [← HAn.out]; exact HT3.out.less (fun j e => .inl e), HN3.out, HS3.out⟩
          case measure => simp [intOf]; omega
    · obtain rfl : k = N := by omega
      go_wp2_with fail
      refine bodyPost_end (results_none rfl _ _ _) rfl ?_
      rw [HGo.out]
      exact ⟨rfl, HT1.out, HS1.out⟩
end
end Nd
end Go.Proofs.YtniicgbkeifnjaaGreatDoor
namespace Go.Proofs.YtniicgbkeifnjaaGreatDoor
open Go.ChangeShapes Go.WideShapes Go.ChangeAt Go.RowKit
set_option linter.unusedVariables false
set_option maxRecDepth 100000
namespace Nd
def Ticked (w : World) (F : Nat → Prop) (p : Nat) (c : Cfg) (s : St) (m : Nat) (os : Outs) (e : Ending) (w' : World) : Prop :=
  ∃ v G F', e = .returned v ∧ NAt w' F' p c s m ∧ OutsAt w' G v os ∧ (∀ j, G j → ¬ F' j ∧ w.heap.size ≤ j) ∧ K.Grows F w F' w'
theorem TickAt.done {Z F F' : Nat → Prop} {w w' : World} {p m m' bx : Nat} {c : Cfg} {s : St} {os : Outs} {v : Value} (T : TickAt Z w F w' F' p c s m bx os) (hv : w'.cell? ⟨bx, 0, none⟩ = some v) (hm : m ≤ m') : Ticked w F p c s m' os (.returned v) w' := by
  obtain ⟨v', G, h1, h2, h3, h4, h5, h6, h7, h8, h9, h10, h11⟩ := T
  rw [hv] at h2
  cases h2
  exact ⟨v, G, F', rfl, h1.mono hm, h4, h6, h9, h10⟩
set_option maxHeartbeats 8000000 in
set_option maxRecDepth 100000 in
theorem tick_any {w : World} {F : Nat → Prop} {p m : Nat} {c : Cfg} {s : St} (h : NAt w F p c s m) (hT : M.Tab w) (hm : m ≤ 70000) :
    Calls Tryz.prog 16 #[.pointer (some ⟨p, 0, none⟩)] w (Ticked w F p c (tick c s).1 (m + 40) (tick c s).2) := by
  have HT : Hid (M.Tab w) := hT
  have hE := h.cfg.every8
  have hP := h.cfg.P6
  have hpos : 0 < w.heap.size := hT.lt
  obtain ⟨bx, hbx⟩ : ∃ bx, w.heap.size = bx := ⟨_, rfl⟩
  obtain ⟨W, hW⟩ : ∃ W, W = w.alloc (.cells #[.slice none 0 0] 44) := ⟨_, rfl⟩
  have hB : Below w.heap.size w W := by rw [hW]; exact fresh _ _
  have HT0 : Hid (TickAt (fun j => j = 0) w F W F p c s m bx []) := by
    refine ⟨.slice none 0 0, fun _ => False, h.below hB, by rw [hW, ← hbx]; simp, by rw [hW, ← hbx]; simp, OutsAt.nil _, fun e => e, fun j e => e.elim, fun e => by have := h.foot _ e; omega, Nat.le_of_eq hbx, Sans.of_below hB, fun j e => .inl e, fun j e => ?_⟩
    subst e
    exact ⟨Nat.lt_of_lt_of_le hpos hB.size, h.zero, fun e => e, by omega⟩
  have HTb : Hid (M.Tab W) := hT.below hB hpos
  obtain ⟨mv, hmv⟩ : ∃ mv, moved c (feed c s) = mv := ⟨_, rfl⟩
  have HMv : Hid (moved c (feed c s) = mv) := hmv
  have HLen : Hid (mv.2.length ≤ 6) := by
    have h1 := passTo_len c (matched c (feed c s)) (turned c (feed c s)) c.P
    have h2 : mv.2.length ≤ c.P := by rw [← hmv]; exact h1
    show _ ≤ _
    omega
  have HTk : Hid (tick c s = ({ mv.1 with k := mv.1.k + 1 }, mv.2 ++ if (mv.1.k + 1) % c.every = 0 then tellAll c mv.1 c.bs.length else [])) := by
    show _ = _
    unfold tick
    rw [hmv]
  rw [HTk.out]
  obtain ⟨tl, htl⟩ : ∃ tl, (if (mv.1.k + 1) % c.every = 0 then tellAll c mv.1 c.bs.length else []) = tl := ⟨_, rfl⟩
  have HTl : Hid ((if (mv.1.k + 1) % c.every = 0 then tellAll c mv.1 c.bs.length else []) = tl) := htl
  rw [htl]
  have HTell : Hid (tellAll c { mv.1 with k := mv.1.k + 1 } c.bs.length = tellAll c mv.1 c.bs.length) := by
    have h1 : ∀ o l, tellTo c { mv.1 with k := mv.1.k + 1 } o l = tellTo c mv.1 o l := by
      intro o l
      induction l with
      | zero => rfl
      | succ l ih => rw [tellTo, tellTo, ih]; rfl
    have h2 : ∀ k, tellAll c { mv.1 with k := mv.1.k + 1 } k = tellAll c mv.1 k := by
      intro k
      induction k with
      | zero => rfl
      | succ k ih => rw [tellAll, tellAll, ih, h1]
    exact h2 _
  clear h hT hB hmv htl HTk
  go_enter Tryz.func16, Tryz.ntmps16
  go_upto_region 2 with fail
  rw [← hW]
  clear hW
  go_wp2_with fail
  refine (admit_any HT0.out (by omega)).mono ?_
  rintro e u1 ⟨rfl, F1, t1, s1⟩
  have HT1 : Hid (TickAt (fun j => j = 0) w F u1 F1 p c (feed c s) (m + 6) bx []) := t1
  have HTb1 : Hid (M.Tab u1) := HTb.out.sans s1 (fun e => e rfl)
  clear t1 s1
  go_wp2_with fail
  refine (move_any HT1.out (by omega) (by simp) HTb1.out).mono ?_
  rintro e u2 ⟨rfl, F2, t2, s2⟩
  rw [HMv.out, List.nil_append] at t2
  have HT2 : Hid (TickAt (fun j => j = 0) w F u2 F2 p c mv.1 (m + 6 + 24) bx mv.2) := t2
  obtain ⟨FH, FR, B, ph, pr, hp, n2⟩ := t2.node
  have c5 := n2.c5
  have f5 := n2.f5
  have c4 := n2.c4
  rw [hp] at c5 f5 c4
  obtain ⟨k1, hk1⟩ : ∃ k1, mv.1.k = k1 := ⟨_, rfl⟩
  have hkn : k1 ≤ 80000 := by have := n2.st.kn; omega
  obtain ⟨n3, s3⟩ := n2.upTick
  rw [hp, hk1] at n3 s3
  have HT3 : Hid (TickAt (fun j => j = 0) w F (u2.setCell ⟨p, 5, none⟩ (.int .i64 ((k1 + 1 : Nat) : Int))) F2 p c { mv.1 with k := k1 + 1 } (m + 31) bx mv.2) := (t2.turn (F' := F2) ⟨FH, FR, B, ph, pr, hp, n3⟩ ⟨s3, fun j hj => .inl hj⟩).1
  have HK1 : Hid (mv.1.k = k1) := hk1
  rw [hk1] at c5 HTl HTell
  have hwr : IntKind.i64.wrap ((k1 : Int) + 1) = ((k1 + 1 : Nat) : Int) := by rw [IntKind.wrap_i64]; omega
  obtain ⟨E, hEe⟩ : ∃ E, c.every = E := ⟨_, rfl⟩
  rw [hEe] at c4 hE HTl
  obtain ⟨U, hU⟩ : ∃ U, U = u2.setCell ⟨p, 5, none⟩ (.int .i64 ((k1 + 1 : Nat) : Int)) := ⟨_, rfl⟩
  have HU5 : Hid (U.cell? ⟨p, 5, none⟩ = some (.int .i64 ((k1 + 1 : Nat) : Int)) ∧ U.cell? ⟨p, 4, none⟩ = some (.int .i64 (E : Nat))) := by
    rw [hU]
    exact ⟨World.cell?_setCell_same _ _ _ c5, cell_set c4 (by omega)⟩
  rw [← hU] at HT3
  obtain ⟨k2, hk2⟩ : ∃ k2, k1 + 1 = k2 := ⟨_, rfl⟩
  have HK2 : Hid (k1 + 1 = k2) := hk2
  rw [hk2] at HT3 HU5 hwr hU HTell HTl
  obtain ⟨r, hr⟩ : ∃ r, k2 % E = r := ⟨_, rfl⟩
  have HR : Hid (k2 % E = r) := hr
  have hE0 : E ≠ 0 := by omega
  have hrem : ((k2 : Nat) : Int).tmod ((E : Nat) : Int) = (r : Int) := by
    rw [← hr, Int.tmod_eq_emod_of_nonneg (by omega), Int.natCast_emod]
  obtain ⟨vb, hvb⟩ : ∃ vb, U.cell? ⟨bx, 0, none⟩ = some vb := by
    obtain ⟨v', G, h1, h2, _⟩ := HT3.out
    exact ⟨v', h2⟩
  have HVb : Hid (U.cell? ⟨bx, 0, none⟩ = some vb) := hvb
  clear n2 n3 s3 t2 s2 hr hEe hk1 hkn hvb
  go_upto_region 6 with fail
  rw [← hU]
  clear hU c5 f5 c4
  obtain ⟨c5, c4⟩ := HU5.out
  by_cases hr0 : r = 0
  · subst hr0
    have hr0' : ((0 : Int) == 0) = true := rfl
    have HEx : Hid _ := exchange_any (HT3.out.on (K.drewN_below U 1)) (by omega) (by have := HLen.out; omega)
    go_region
    all_goals
      go_wp2_with fail
      refine (exchange_any (HT3.out.on (K.drewN_below _ _)) (by omega) (by have := HLen.out; omega)).mono ?_
      rintro e u3 ⟨rfl, t4, s4⟩
      rw [HTell.out] at t4
      obtain ⟨vc, hvc⟩ : ∃ vc, u3.cell? ⟨bx, 0, none⟩ = some vc := by
        obtain ⟨v', G, h1, h2, _⟩ := t4
        exact ⟨v', h2⟩
      have HT4 : Hid (Ticked w F p c { mv.1 with k := k2 } (m + 40) (mv.2 ++ tellAll c mv.1 c.bs.length) (.returned vc) u3) := t4.done hvc (by omega)
      clear t4 s4
      go_wp2_with fail
      go_ret
      rw [HK1.out, HK2.out, ← HTl.out, if_pos HR.out]
      exact HT4.out
  · have hr0' : ((r : Int) == 0) = false := by simp; omega
    go_region
    all_goals
      have HT4 : Hid (∀ n, Ticked w F p c { mv.1 with k := k2 } (m + 40) mv.2 (.returned vb) (U.drewN n)) := fun n => (HT3.out.on (K.drewN_below _ n)).done ((K.drewN_below U n).cell (p := ⟨bx, 0, none⟩) (cell_lt HVb.out) |>.trans HVb.out) (by omega)
      have hvb := HVb.out
      go_wp2_with fail
      go_ret
      rw [HK1.out, HK2.out, ← HTl.out, if_neg (by rw [HR.out]; exact hr0), List.append_nil]
      exact HT4.out _
end Nd
end Go.Proofs.YtniicgbkeifnjaaGreatDoor
