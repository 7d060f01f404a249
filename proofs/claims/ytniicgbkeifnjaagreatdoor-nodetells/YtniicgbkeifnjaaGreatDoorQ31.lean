/-
  Contracts and plain facts that the walks lean on (NodeB, NodeC, CrcCalls, Onto, WireA). Conditions: none but those that each states.
-/
import Derived.Test.YtniicgbkeifnjaaGreatDoorQ30
namespace Go.Proofs.YtniicgbkeifnjaaGreatDoor
open Go.ChangeShapes Go.WideShapes Go.ChangeAt Go.RowKit
set_option linter.unusedVariables false
set_option maxRecDepth 100000
namespace Nd
theorem may_is {c : Cfg} {s : St} {i o k y : Nat} (hk : k < c.L) (hy : (s.Q ((i : Nat), (o : Nat), (k : Nat))).length = y) : may c s i o k = (decide (0 < y) && (decide (o = 0) || decide (0 < (s.s o k).2 - (s.s o k).1))) := by
  unfold may
  rw [decide_eq_true hk, Bool.true_and]
  congr 1
  cases hq : s.Q ((i : Nat), (o : Nat), (k : Nat)) with
  | nil => rw [hq] at hy; simp at hy; subst hy; rfl
  | cons x r => rw [hq] at hy; simp at hy; simp; omega
section
variable {w w' : World} {F FH FR : Nat → Prop} {B : Lb → Nat} {ph pr : Nat} {c : Cfg} {s : St} {m : Nat}
theorem NIn.lpb (h : NIn w F FH FR B ph pr c s m) : B .pb < w.heap.size := h.foot _ (h.own .pb trivial).1
set_option maxHeartbeats 4000000 in
set_option maxRecDepth 100000 in
theorem nmay_any (h : NIn w F FH FR B ph pr c s m) (hm : m ≤ 100000) {i o : Nat} (hi : i < c.P) (ho : o < c.P) {z : Nat} (hz : mayM c s i o = z) :
    Calls Tryz.prog 172 #[.pointer (some ⟨B .p, 0, none⟩), .int .i64 i, .int .i64 o] w fun e w' => e = .returned (.int .u16 z) ∧ Below w.heap.size w w' := by
  have hL := h.cfg.L3
  have hP := h.cfg.P6
  have c1 := h.c1
  have HN : Hid (NIn w F FH FR B ph pr c s m) := h
  have HZ : Hid (maskOf (may c s i o) c.L = z) := hz
  obtain ⟨L, hLe⟩ : ∃ L, c.L = L := ⟨_, rfl⟩
  have HL : Hid (c.L = L) := hLe
  rw [hLe] at c1 hL HZ
  obtain ⟨lv, hlv, hlw⟩ := h.row ho
  have HV : Hid ((o = 0 ∧ lv = .slice none 0 0) ∨ (1 ≤ o ∧ ∃ lc, lv = .slice (some ⟨B (.lb o), 0, none⟩) c.L lc)) := hlw
  have hrw := h.rows o ho
  have HX : Hid ((w.cell? ⟨B .pb, o * 3, none⟩ = some (.pointer (some ⟨B (.wq o), 0, none⟩)) ∧ w.cell? ⟨B .pb, o * 3 + 1, none⟩ = some (.int .i64 (toV c o))) ∧ w.cell? ⟨B .pb, o * 3 + 2, none⟩ = some lv) := ⟨hrw, hlv⟩
  obtain ⟨pc, _, _, h6⟩ := h.c6
  have H6 : Hid (w.cell? ⟨B .p, 6, none⟩ = some (.slice (some ⟨B .pb, 0, none⟩) c.P pc)) := h6
  have H9 : Hid (w.cell? ⟨B .p, 9, none⟩ = some (.pointer (some ⟨pr, 0, none⟩))) := h.c9
  have H1 : Hid (w.cell? ⟨B .p, 1, none⟩ = some (.int .i64 (L : Nat))) := c1
  have hoP : (o : Int) < (c.P : Int) := by omega
  have HO : Hid (o < c.P) := ho
  clear h hz hLe hlv hlw hrw h6
  go_enter Tryz.func172, Tryz.ntmps172
  go_wp2_with fail
  clear c1
  go_loopw [7, 8, 13] (fun a _ j wr => ∃ k : Nat, k ≤ L ∧ j = .int .i64 k ∧ a = .int .u16 (maskOf (may c s i o) k : Nat) ∧ Below w.heap.size w wr) (fun _ _ j _ => L - (intOf j).toNat)
  case atStart => exact ⟨0, Nat.zero_le _, rfl, rfl, Below.refl _ _⟩
  case round =>
    obtain ⟨k, hk, rfl, rfl, hB⟩ := hrel
    have HB : Hid (Below w.heap.size w wr) := hB
    clear hB
    by_cases hkn : k < L
    · have HR : Hid (NIn wr F FH FR B ph pr c s m) := HN.out.below HB.out
      have lp := HN.out.foot _ (HN.out.own .p trivial).1
      have k6 := (HB.out.cell (p := ⟨B .p, 6, none⟩) lp).trans H6.out
      have k9 := (HB.out.cell (p := ⟨B .p, 9, none⟩) lp).trans H9.out
      have x0 := (HB.out.cell (p := ⟨B .pb, o * 3, none⟩) HN.out.lpb).trans HX.out.1.1
      have x1 := (HB.out.cell (p := ⟨B .pb, o * 3 + 1, none⟩) HN.out.lpb).trans HX.out.1.2
      have x2 := (HB.out.cell (p := ⟨B .pb, o * 3 + 2, none⟩) HN.out.lpb).trans HX.out.2
      obtain ⟨y, hy⟩ : ∃ y, (s.Q ((i : Nat), (o : Nat), (k : Nat))).length = y := ⟨_, rfl⟩
      have HY : Hid ((s.Q ((i : Nat), (o : Nat), (k : Nat))).length = y) := hy
      have hM := may_is (c := c) (by rw [HL.out]; exact hkn) hy
      have HO16 : Hid _ := or_mask (may c s i o) (k := k) (by omega)
      obtain ⟨x, hx⟩ : ∃ x, maskOf (may c s i o) k = x := ⟨_, rfl⟩
      have HXm : Hid (maskOf (may c s i o) k = x) := hx
      rw [hx] at HO16 ⊢
      clear hx hy lp
      by_cases hy0 : 0 < y
      · obtain ⟨b, hb⟩ : ∃ b, (decide (o = 0) || decide (0 < (s.s o k).2 - (s.s o k).1)) = b := ⟨_, rfl⟩
        have HBb : Hid ((decide (o = 0) || decide (0 < (s.s o k).2 - (s.s o k).1)) = b) := hb
        rw [hb, decide_eq_true hy0, Bool.true_and] at hM
        clear hb
        cases b with
        | true =>
          have HMo : Hid (maskOf (may c s i o) (k + 1) = x + 2 ^ k) := by
            show _ = _
            rw [maskOf_hit hM, HXm.out]
          clear hM
          go_wp2_with (first
            | (go_at_call 161; refine (K.len_any HR.out.rings (i : Nat) (o : Nat) (k : Nat) (wf3 (by omega) (by omega) (by omega)) y HY.out).mono ?_; rintro e u ⟨rfl, hq⟩; obtain rfl := hq.symm)
            | (go_at_call 213; refine (takes_any HR.out HO.out (l := k) (by rw [HL.out]; exact hkn) _ _ lv HV.out HBb.out).mono ?_; rintro e u ⟨rfl, hB1⟩; have HB1 : Hid (Below w.heap.size w u) := later HB.out hB1; clear hB1))
          go_roundw
          case rel =>
            have R : bits .or .u16 (x : Int) (IntKind.u16.wrap (2 ^ k)) = ((maskOf (may c s i o) (k + 1) : Nat) : Int) := by rw [HO16.out, HMo.out]
            rw [R]
            exact ⟨k + 1, by omega, by go_num, rfl, HB1.out⟩
          case measure => simp [intOf]; omega
        | false =>
          have HMo : Hid (maskOf (may c s i o) (k + 1) = x) := by
            show _ = _
            rw [maskOf_miss hM, HXm.out]
          clear hM
          go_wp2_with (first
            | (go_at_call 161; refine (K.len_any HR.out.rings (i : Nat) (o : Nat) (k : Nat) (wf3 (by omega) (by omega) (by omega)) y HY.out).mono ?_; rintro e u ⟨rfl, hq⟩; obtain rfl := hq.symm)
            | (go_at_call 213; refine (takes_any HR.out HO.out (l := k) (by rw [HL.out]; exact hkn) _ _ lv HV.out HBb.out).mono ?_; rintro e u ⟨rfl, hB1⟩; have HB1 : Hid (Below w.heap.size w u) := later HB.out hB1; clear hB1))
          go_roundw
          case rel => exact ⟨k + 1, by omega, by go_num, by rw [HMo.out], HB1.out⟩
          case measure => simp [intOf]; omega
      · have HMo : Hid (maskOf (may c s i o) (k + 1) = x) := by
          show _ = _
          rw [maskOf_miss (by rw [hM, decide_eq_false hy0, Bool.false_and]), HXm.out]
        clear hM
        go_wp2_with (go_at_call 161; refine (K.len_any HR.out.rings (i : Nat) (o : Nat) (k : Nat) (wf3 (by omega) (by omega) (by omega)) y HY.out).mono ?_; rintro e u ⟨rfl, hq⟩; obtain rfl := hq.symm)
        go_roundw
        case rel => exact ⟨k + 1, by omega, by go_num, by rw [HMo.out], HB.out⟩
        case measure => simp [intOf]; omega
    · obtain rfl : k = L := by omega
      have c1 := (HB.out.cell (p := ⟨B .p, 1, none⟩) (HN.out.foot _ (HN.out.own .p trivial).1)).trans H1.out
      rw [HZ.out]
      go_wp2_with fail
      go_ret
      exact ⟨rfl, HB.out⟩
def asksTo (c : Cfg) (s : St) (k j : Nat) : Nat → Nat := fun i => if i < k then askM c s i else if i = k then maskOf (fun o => decide (mayM c s i o ≠ 0)) j else 0
theorem asks_at (c : Cfg) (s : St) (k j : Nat) : asksTo c s k j k = maskOf (fun o => decide (mayM c s k o ≠ 0)) j := by unfold asksTo; rw [if_neg (by omega), if_pos rfl]
theorem asks_next (c : Cfg) (s : St) (k : Nat) : asksTo c s k c.P = asksTo c s (k + 1) 0 := by
  funext i
  unfold asksTo
  by_cases h1 : i < k
  · rw [if_pos h1, if_pos (by omega)]
  · rw [if_neg h1]
    by_cases h2 : i = k
    · subst h2; rw [if_pos rfl, if_pos (by omega)]; rfl
    · rw [if_neg h2, if_neg (by omega)]
      by_cases h3 : i = k + 1
      · rw [if_pos h3]; rfl
      · rw [if_neg h3]
theorem asks_hit {c : Cfg} {s : St} {k j : Nat} (h : mayM c s k j ≠ 0) (i : Nat) : (if i = k then asksTo c s k j k + 2 ^ j else asksTo c s k j i) = asksTo c s k (j + 1) i := by
  by_cases e : i = k
  · subst e
    rw [if_pos rfl, asks_at, asks_at, maskOf_hit (decide_eq_true h)]
  · rw [if_neg e]
    unfold asksTo
    by_cases h1 : i < k
    · rw [if_pos h1, if_pos h1]
    · rw [if_neg h1, if_neg h1, if_neg e, if_neg e]
theorem asks_miss {c : Cfg} {s : St} {k j : Nat} (h : mayM c s k j = 0) (i : Nat) : asksTo c s k j i = asksTo c s k (j + 1) i := by
  by_cases e : i = k
  · subst e
    rw [asks_at, asks_at, maskOf_miss (decide_eq_false (by simp [h]))]
  · unfold asksTo
    by_cases h1 : i < k
    · rw [if_pos h1, if_pos h1]
    · rw [if_neg h1, if_neg h1, if_neg e, if_neg e]
theorem asks_all {c : Cfg} {s : St} {i : Nat} (h : i < c.P) : asksTo c s c.P 0 i = askM c s i := by unfold asksTo; rw [if_pos h]
end
end Nd
end Go.Proofs.YtniicgbkeifnjaaGreatDoor
namespace Go.Proofs.YtniicgbkeifnjaaGreatDoor
open Go.ChangeShapes Go.WideShapes Go.ChangeAt Go.RowKit
set_option linter.unusedVariables false
set_option maxRecDepth 100000
namespace Nd
section
variable {w w' : World} {F FH FR : Nat → Prop} {B : Lb → Nat} {ph pr : Nat} {c : Cfg} {s : St} {m : Nat}
theorem mayM_16 {c : Cfg} (h : c.L ≤ 16) (s : St) (i o : Nat) : mayM c s i o < 65536 := maskOf_16 _ h
set_option maxHeartbeats 4000000 in
set_option maxRecDepth 100000 in
theorem nrequests_any (h : NIn w F FH FR B ph pr c s m) (hm : m ≤ 100000) :
    Calls Tryz.prog 106 #[.pointer (some ⟨B .p, 0, none⟩)] w fun e w' => e = .returned (.slice (some ⟨w.heap.size, 0, none⟩) c.P c.P) ∧ M.Cols w' w.heap.size c.P (askM c s) ∧ Below w.heap.size w w' := by
  have hL := h.cfg.L3
  have hP := h.cfg.P6
  have HN : Hid (NIn w F FH FR B ph pr c s m) := h
  obtain ⟨pc, _, _, h6⟩ := h.c6
  have lp : B .p < w.heap.size := h.foot _ (h.own .p trivial).1
  have HD : Hid (∀ j, asksTo c s j c.P = asksTo c s (j + 1) 0) := asks_next c s
  have HAl : Hid (∀ i, i < c.P → asksTo c s c.P 0 i = askM c s i) := fun i hi => asks_all hi
  obtain ⟨P, hp⟩ : ∃ P, c.P = P := ⟨_, rfl⟩
  have HP : Hid (c.P = P) := hp
  rw [hp] at h6 hP HD HAl ⊢
  have hP1 : 1 ≤ P := by rw [← hp]; unfold Cfg.P; omega
  have hmk := run_make_row' (P := Tryz.prog) 143 28 (.int .u16 0) 2 Tryz.underlying143 M.infoM rfl .i64 .i64 P (by omega) (by omega)
  have HC0 : Hid (M.Cols (w.alloc (.cells (madeCells #[.int .u16 0] P) 28)) w.heap.size P (fun _ => 0)) := M.Cols.made w P
  have HB0 : Hid (Below w.heap.size w (w.alloc (.cells (madeCells #[.int .u16 0] P) 28))) := fresh _ _
  have H6 : Hid (w.cell? ⟨B .p, 6, none⟩ = some (.slice (some ⟨B .pb, 0, none⟩) P pc)) := h6
  clear h hp
  go_enter Tryz.func106, Tryz.ntmps106
  go_wp2_with fail
  generalize w.alloc (.cells (madeCells #[.int .u16 0] P) 28) = u0 at HC0 HB0 ⊢
  clear h6 hmk
  go_loopw [4, 5, 14] (fun _ _ i wr => ∃ k : Nat, k ≤ P ∧ i = .int .i64 k ∧ M.Cols wr w.heap.size P (asksTo c s k 0) ∧ Below w.heap.size w wr) (fun _ _ i _ => P - (intOf i).toNat)
  case atStart => exact ⟨0, Nat.zero_le _, rfl, HC0.out.congr (fun k _ => by unfold asksTo; rw [if_neg (by omega)]; split <;> rfl), HB0.out⟩
  case round =>
    obtain ⟨k, hk, rfl, hc, hB⟩ := hrel
    have HC : Hid (M.Cols wr w.heap.size P (asksTo c s k 0)) := hc
    have HB : Hid (Below w.heap.size w wr) := hB
    clear hc hB
    by_cases hkn : k < P
    · have k6 := (HB.out.cell (p := ⟨B .p, 6, none⟩) lp).trans H6.out
      go_wp2_with fail
      clear k6
      go_loopw [5, 22] (fun _ j wx => ∃ o : Nat, o ≤ P ∧ j = .int .i64 o ∧ M.Cols wx w.heap.size P (asksTo c s k o) ∧ Below w.heap.size w wx) (fun _ j _ => P - (intOf j).toNat)
      case atStart => exact ⟨0, Nat.zero_le _, rfl, HC.out, HB.out⟩
      case round =>
        obtain ⟨o, ho, rfl, hc2, hB2⟩ := hrel
        have HC2 : Hid (M.Cols wr w.heap.size P (asksTo c s k o)) := hc2
        have HB2 : Hid (Below w.heap.size w wr) := hB2
        clear hc2 hB2
        by_cases hon : o < P
        · have k6 := (HB2.out.cell (p := ⟨B .p, 6, none⟩) lp).trans H6.out
          obtain ⟨z, hz⟩ : ∃ z, mayM c s k o = z := ⟨_, rfl⟩
          have HZ : Hid (mayM c s k o = z) := hz
          have hz16 : z < 65536 := by rw [← hz]; exact mayM_16 (by omega) s k o
          clear hz
          go_wp2_with fail
          refine (nmay_any (HN.out.below HB2.out) hm (i := k) (o := o) (by rw [HP.out]; exact hkn) (by rw [HP.out]; exact hon) HZ.out).mono ?_
          rintro e u ⟨rfl, hB3⟩
          have HC3 : Hid (M.Cols u w.heap.size P (asksTo c s k o)) := HC2.out.below hB3
          have HB3 : Hid (Below w.heap.size w u) := later HB2.out hB3
          clear hB3 k6
          by_cases hz0 : z = 0
          · subst hz0
            have HR : Hid (M.Cols u w.heap.size P (asksTo c s k (o + 1))) := HC3.out.congr (fun i _ => asks_miss HZ.out i)
            go_wp2_with fail
            go_roundw
            case rel => exact ⟨o + 1, by omega, by go_num, HR.out, HB3.out⟩
            case measure => simp [intOf]; omega
          · have hz1 : ((z : Int) == 0) = false := by simp; omega
            obtain ⟨c1, f1⟩ := HC3.out k hkn
            obtain ⟨x, hx⟩ : ∃ x, asksTo c s k o k = x := ⟨_, rfl⟩
            have hxm : maskOf (fun o => decide (mayM c s k o ≠ 0)) o = x := by rw [← asks_at, hx]
            have HO16 : Hid _ := or_mask (fun o => decide (mayM c s k o ≠ 0)) (k := o) (by omega)
            rw [hxm] at HO16
            rw [hx] at c1
            have HS : Hid (M.Cols (u.setCell ⟨w.heap.size, k, none⟩ (.int .u16 ((x + 2 ^ o : Nat) : Int))) w.heap.size P (asksTo c s k (o + 1)) ∧ Below w.heap.size w (u.setCell ⟨w.heap.size, k, none⟩ (.int .u16 ((x + 2 ^ o : Nat) : Int)))) :=
              ⟨(HC3.out.set (v := x + 2 ^ o) hkn).congr (fun i _ => by rw [← hx]; exact asks_hit (by rw [HZ.out]; exact hz0) i), HB3.out.setCell (p := ⟨w.heap.size, k, none⟩) (Nat.le_refl _) _⟩
            have hkP : (k : Int) < (P : Int) := by omega
            clear hx hxm
            go_wp2_with fail
            go_region
            all_goals
              go_wp2_with fail
              go_roundw
              case rel =>
                rw [HO16.out]
                exact ⟨o + 1, by omega, by go_num, HS.out.1.below (K.drewN_below _ _), later HS.out.2 (K.drewN_below _ _)⟩
              case measure => simp [intOf]; omega
        · obtain rfl : o = P := by omega
          have HR : Hid (M.Cols wr w.heap.size o (asksTo c s (k + 1) 0)) := by rw [← HD.out]; exact HC2.out
          go_wp2_with fail
          go_roundw
          case rel => exact ⟨k + 1, by omega, by go_num, HR.out, HB2.out⟩
          case measure => simp [intOf]; omega
    · obtain rfl : k = P := by omega
      go_wp2_with fail
      go_ret
      exact ⟨rfl, HC.out.congr (fun i hi => HAl.out i hi), HB.out⟩
end
end Nd
end Go.Proofs.YtniicgbkeifnjaaGreatDoor
namespace Go.Proofs.YtniicgbkeifnjaaGreatDoor
open Go.ChangeShapes Go.WideShapes Go.ChangeAt Go.RowKit
set_option linter.unusedVariables false
set_option maxRecDepth 100000
def Reg (b n : Nat) (w0 w : World) : Prop := w.cell? ⟨b, 0, none⟩ = some (.int .u16 n) ∧ w.frozen? ⟨b, 0, none⟩ = false ∧ Below b w0 w
theorem Reg.set {b n : Nat} {w0 w : World} {m : Int} {m' : Nat} (h : Reg b n w0 w) (e : m = m') : Reg b m' w0 (w.setCell ⟨b, 0, none⟩ (.int .u16 m)) := by
  subst e
  exact ⟨World.cell?_setCell_same _ _ _ h.1, by simpa using h.2.1, h.2.2.setCell (Nat.le_refl _) _⟩
theorem high_bit (n : Nat) (h : n < 65536) : (bits BinOp.and IntKind.u16 (n : Int) 32768 != 0) = decide (32768 ≤ n) := by
  have e := u16_and_nat n 32768 h (by omega)
  rw [show ((32768 : Nat) : Int) = 32768 from rfl] at e
  rw [e, show 32768 = 2 ^ 15 from rfl, nat_bit 15 n]
  by_cases hn : 2 ^ 15 ≤ n
  · have : n / 2 ^ 15 % 2 = 1 := by omega
    rw [this]; simp [hn]
  · have : n / 2 ^ 15 % 2 = 0 := by omega
    rw [this]; simp [hn]
set_option maxHeartbeats 400000 in
theorem up_any (b n : Nat) (hn : n < 65536) (w0 w : World) (hr : Reg b n w0 w) :
    Calls Tryz.prog 238 #[.pointer (some ⟨b, 0, none⟩)] w fun e w' => e = .returned (.tuple #[]) ∧ Reg b (Crc.up n) w0 w' := by
  have ht := high_bit n hn
  have hc := hr.1
  have hf := hr.2.1
  have HR : Hid (Reg b n w0 w) := hr
  clear hr
  by_cases h : n < 32768
  · rw [show decide (32768 ≤ n) = false by simp; omega] at ht
    go_enter Tryz.func238, Tryz.ntmps238
    go_wp2
    go_end0
    exact ⟨rfl, HR.out.set (by unfold Crc.up; rw [if_pos h]; omega)⟩
  · rw [show decide (32768 ≤ n) = true by simp; omega] at ht
    go_enter Tryz.func238, Tryz.ntmps238
    go_wp2
    go_end0
    refine ⟨rfl, (HR.out.set (m' := 2 * n - 65536) (by rw [IntKind.wrap_u16]; omega)).set ?_⟩
    unfold Crc.up
    rw [if_neg h, IntKind.wrap_u16, show (n : Int) * 2 % 65536 = ((2 * n - 65536 : Nat) : Int) by omega]
    exact u16_xor_nat _ 4129 (by omega) (by omega)
set_option maxHeartbeats 400000 in
theorem take_any (b n c : Nat) (hn : n < 65536) (hc8 : c < 256) (w0 w : World) (hr : Reg b n w0 w) :
    Calls Tryz.prog 207 #[.pointer (some ⟨b, 0, none⟩), .int .u8 c] w fun e w' => e = .returned (.tuple #[]) ∧ Reg b (Crc.step n c) w0 w' := by
  have hc := hr.1
  have hf := hr.2.1
  have HR : Hid (Reg b n w0 w) := hr
  clear hr
  go_enter Tryz.func207, Tryz.ntmps207
  go_wp2
  have hx : (bits BinOp.xor IntKind.u16 (n : Int) ((c : Int) * 256)) = ((n ^^^ c * 256 : Nat) : Int) := by
    rw [show (c : Int) * 256 = ((c * 256 : Nat) : Int) by omega]; exact u16_xor_nat _ _ hn (by omega)
  have HX : Hid ((bits BinOp.xor IntKind.u16 (n : Int) ((c : Int) * 256)) = ((n ^^^ c * 256 : Nat) : Int)) := hx
  clear hx
  go_loopw [12] (fun i wr => ∃ k : Nat, k ≤ 8 ∧ i = .int .i64 k ∧ Reg b (Crc.ups k (n ^^^ c * 256)) w0 wr) (fun i _ => 8 - (intOf i).toNat)
  case atStart => exact ⟨0, Nat.zero_le _, rfl, HR.out.set HX.out⟩
  case round =>
    obtain ⟨k, hk, rfl, hreg⟩ := hrel
    have HG : Hid (Reg b (Crc.ups k (n ^^^ c * 256)) w0 wr) := hreg
    have hlt : Crc.ups k (n ^^^ c * 256) < 65536 := Crc.ups_lt (Crc.xor_lt hn (by omega))
    clear hreg HR
    by_cases h8 : k < 8
    · go_wp2_with (go_at_call 238; refine (up_any b _ hlt w0 _ HG.out).mono ?_; rintro e w' ⟨rfl, hreg'⟩)
      go_roundw
      case rel => exact ⟨k + 1, by omega, by go_num, hreg'⟩
      case measure => simp [intOf]; omega
    · obtain rfl : k = 8 := by omega
      go_wp2
      go_end0
      exact ⟨rfl, HG.out⟩
theorem crc_take_succ {l : List Nat} {k : Nat} (h : k < l.length) : Crc.crc (l.take (k + 1)) = Crc.step (Crc.crc (l.take k)) (l.getD k 0) := by
  rw [List.take_succ_eq_append_getElem h, Crc.crc_snoc]
  congr 1
  simp [h]
set_option maxHeartbeats 400000 in
theorem sum_any (a : Option Addr) (len cap : Nat) (l : List Nat) (w : World) (hb : Octs w a len l) :
    Calls Tryz.prog 159 #[.slice a len cap] w fun e w' => e = .returned (.int .u16 (Crc.crc l : Nat)) ∧ Below w.heap.size w w' := by
  obtain ⟨hlen, hm, ho, hcs⟩ := hb
  unfold maxLen at hm
  have HL : Hid (l.length = len) := hlen
  have HC : Hid (len = 0 ∨ ∃ b off, a = some ⟨b, off, none⟩ ∧ b < w.heap.size ∧ ∀ i, i < len → w.cell? ⟨b, off + i, none⟩ = some (.int .u8 (l.getD i 0 : Nat))) := hcs
  clear hlen hcs
  go_enter Tryz.func159, Tryz.ntmps159
  go_wp2
  go_loopw [8] (fun i wr => ∃ k : Nat, k ≤ len ∧ i = .int .i64 k ∧ Reg w.heap.size (Crc.crc (l.take k)) w wr) (fun i _ => len - (intOf i).toNat)
  case atStart => exact ⟨0, Nat.zero_le _, rfl, by simp [Crc.crc_none], by simp, (Below.refl _ _).alloc (Nat.le_refl _) _⟩
  case round =>
    obtain ⟨k, hk, rfl, hreg⟩ := hrel
    have HG : Hid (Reg w.heap.size (Crc.crc (l.take k)) w wr) := hreg
    clear hreg
    by_cases hkl : k < len
    · obtain ⟨b, off, rfl, hlt, hcell⟩ : ∃ b off, a = some ⟨b, off, none⟩ ∧ b < w.heap.size ∧ ∀ i, i < len → w.cell? ⟨b, off + i, none⟩ = some (.int .u8 (l.getD i 0 : Nat)) := by
        rcases HC.out with h | h
        · omega
        · exact h
      have hc1 : wr.cell? ⟨b, off + k, none⟩ = some (.int .u8 (l.getD k 0 : Nat)) := (HG.out.2.2.cell (p := ⟨b, off + k, none⟩) hlt).trans (hcell k hkl)
      obtain ⟨c, hc⟩ : ∃ c, c = l.getD k 0 := ⟨_, rfl⟩
      rw [← hc] at hc1
      have HCc : Hid (c = l.getD k 0) := hc
      have hc8 : c < 256 := by rw [hc]; exact Oct_getD ho k
      clear hc hcell HC
      go_wp2_with (go_at_call 207; refine (take_any _ _ c (Crc.crc_lt (Oct_take ho k)) hc8 w _ HG.out).mono ?_; rintro e w' ⟨rfl, hreg'⟩)
      go_roundw
      case rel => exact ⟨k + 1, by omega, by go_num, by rw [crc_take_succ (by rw [HL.out]; exact hkl), ← HCc.out]; exact hreg'⟩
      case measure => simp [intOf]; omega
    · obtain rfl : k = len := by omega
      have hc1 := HG.out.1
      go_wp2
      go_ret
      refine ⟨ret_int ?_, HG.out.2.2⟩
      rw [List.take_of_length_le (by rw [HL.out]; exact Nat.le_refl _)]
set_option maxRecDepth 100000 in
set_option maxHeartbeats 1000000 in
theorem ref_any (a : Option Addr) (len cap : Nat) (l : List Nat) (w : World) (hb : Octs w a len l) :
    Calls Tryz.prog 78 #[.slice a len cap] w fun e w' => e = .returned (.int .u16 (Crc.crc l : Nat)) ∧ w' = w := by
  obtain ⟨hlen, hm, ho, hcs⟩ := hb
  unfold maxLen at hm
  have HL : Hid (l.length = len) := hlen
  have HC : Hid (len = 0 ∨ ∃ b off, a = some ⟨b, off, none⟩ ∧ b < w.heap.size ∧ ∀ i, i < len → w.cell? ⟨b, off + i, none⟩ = some (.int .u8 (l.getD i 0 : Nat))) := hcs
  clear hlen hcs
  go_enter Tryz.func78, Tryz.ntmps78
  go_wp2
  go_loop [3, 4] (fun r i => ∃ k : Nat, k ≤ len ∧ i = .int .i64 k ∧ r = .int .u32 (Crc.crc (l.take k) : Nat)) (fun _ i => len - (intOf i).toNat)
  case atStart => exact ⟨0, Nat.zero_le _, rfl, by simp [Crc.crc_none]⟩
  case round =>
    obtain ⟨k, hk, rfl, rfl⟩ := hrel
    obtain ⟨R, hR⟩ : ∃ R, R = Crc.crc (l.take k) := ⟨_, rfl⟩
    have hRl : R < 65536 := by rw [hR]; exact Crc.crc_lt (Oct_take ho k)
    rw [← hR]
    have HR : Hid (R = Crc.crc (l.take k)) := hR
    clear hR
    by_cases hkl : k < len
    · obtain ⟨b, off, rfl, hlt, hcell⟩ : ∃ b off, a = some ⟨b, off, none⟩ ∧ b < w.heap.size ∧ ∀ i, i < len → w.cell? ⟨b, off + i, none⟩ = some (.int .u8 (l.getD i 0 : Nat)) := by
        rcases HC.out with h | h
        · omega
        · exact h
      have hc1 : w.cell? ⟨b, off + k, none⟩ = some (.int .u8 (l.getD k 0 : Nat)) := hcell k hkl
      obtain ⟨c, hc⟩ : ∃ c, c = l.getD k 0 := ⟨_, rfl⟩
      rw [← hc] at hc1
      have HCc : Hid (c = l.getD k 0) := hc
      have hc8 : c < 256 := by rw [hc]; exact Oct_getD ho k
      clear hc hcell HC
      have HX : Hid ((bits BinOp.xor IntKind.u32 (R : Int) ((c : Int) * 256)) = ((R ^^^ c * 256 : Nat) : Int)) := by
        show _ = _
        rw [show (c : Int) * 256 = ((c * 256 : Nat) : Int) by omega]; exact u32_xor_nat _ _ (by omega) (by omega)
      go_wp2
      go_loop [3, 5] (fun r i => ∃ j : Nat, j ≤ 8 ∧ i = .int .i64 j ∧ r = .int .u32 (Crc.ups j (R ^^^ c * 256) : Nat)) (fun _ i => 8 - (intOf i).toNat)
      case atStart => exact ⟨0, Nat.zero_le _, rfl, by rw [HX.out]; rfl⟩
      case round =>
        obtain ⟨j, hj, rfl, rfl⟩ := hrel
        obtain ⟨S, hS⟩ : ∃ S, S = Crc.ups j (R ^^^ c * 256) := ⟨_, rfl⟩
        have hSl : S < 65536 := by rw [hS]; exact Crc.ups_lt (Crc.xor_lt hRl (by omega))
        rw [← hS]
        have HS : Hid (S = Crc.ups j (R ^^^ c * 256)) := hS
        clear hS
        by_cases h8 : j < 8
        · have HU : Hid (Crc.ups (j + 1) (R ^^^ c * 256) = Crc.up S) := by show _ = _; rw [HS.out]; rfl
          clear hc1 hlt HX HR HCc ho hm
          by_cases hs : S < 32768
          · have ht : decide ((65536 : Int) ≤ (S : Int) * 2) = false := decide_eq_false (by omega)
            go_wp2
            go_round
            case rel => exact ⟨j + 1, by omega, by go_num, by rw [HU.out]; unfold Crc.up; rw [if_pos hs]; go_num⟩
            case measure => simp [intOf]; omega
          · have ht : decide ((65536 : Int) ≤ (S : Int) * 2) = true := decide_eq_true (by omega)
            go_wp2
            go_round
            case rel => exact ⟨j + 1, by omega, by go_num, by
              rw [HU.out]; unfold Crc.up; rw [if_neg hs, show (S : Int) * 2 - 65536 = ((2 * S - 65536 : Nat) : Int) by omega]
              exact congrArg (Value.int .u32) (u32_xor_nat _ 4129 (by omega) (by omega))⟩
            case measure => simp [intOf]; omega
        · obtain rfl : j = 8 := by omega
          go_wp2
          go_round
          case rel => exact ⟨k + 1, by omega, by go_num, by rw [crc_take_succ (by rw [HL.out]; exact hkl), ← HCc.out, ← HR.out, HS.out]; rfl⟩
          case measure => simp [intOf]; omega
    · obtain rfl : k = len := by omega
      go_wp2
      go_ret
      refine ⟨ret_int ?_, rfl⟩
      rw [HR.out, List.take_of_length_le (by rw [HL.out]; exact Nat.le_refl _)]
end Go.Proofs.YtniicgbkeifnjaaGreatDoor
namespace Go.Proofs.YtniicgbkeifnjaaGreatDoor
open Go.ChangeShapes Go.WideShapes Go.ChangeAt Go.RowKit
set_option linter.unusedVariables false
set_option maxRecDepth 100000
def Moved (w w' : World) (r : Option Nat) (g : Nat) : Prop := w.grownBy w' r ∧ (r = some g ∨ w.heap.size ≤ g)
theorem Moved.trans {w w1 w2 : World} {r : Option Nat} {g g2 : Nat} (h : Moved w w1 r g) (k : Moved w1 w2 (some g) g2) : Moved w w2 r g2 := by
  refine ⟨⟨k.1.os.trans h.1.os, k.1.tape.trans h.1.tape, k.1.output.trans h.1.output, Nat.le_trans h.1.size k.1.size, fun j hj hn => ?_⟩, ?_⟩
  · refine (k.1.block j (Nat.lt_of_lt_of_le hj h.1.size) ?_).trans (h.1.block j hj hn)
    rcases h.2 with h2 | h2
    · rw [← h2]; exact hn
    · intro e; cases e; omega
  · rcases k.2 with k2 | k2
    · cases k2; exact h.2
    · exact .inr (Nat.le_trans h.1.size k2)
theorem Moved.ahead {w w1 w2 : World} {r : Option Nat} {g : Nat} (k : Below w.heap.size w w1) (h : Moved w1 w2 r g) : Moved w w2 r g :=
  ⟨⟨h.1.os.trans k.os, h.1.tape.trans k.tape, h.1.output.trans k.output, Nat.le_trans k.size h.1.size, fun j hj hn => (h.1.block j (Nat.lt_of_lt_of_le hj k.size) hn).trans (k.block j hj)⟩, h.2.imp id (fun h2 => Nat.le_trans k.size h2)⟩
theorem Moved.below {w w' : World} {g : Nat} (h : Moved w w' none g) : Below w.heap.size w w' ∧ w.heap.size ≤ g :=
  ⟨⟨h.1.os, h.1.tape, h.1.output, h.1.size, fun j hj => h.1.block j hj (by simp)⟩, h.2.elim (fun e => by cases e) id⟩
theorem Moved.since {w0 w w' : World} {r g : Nat} (k : Below w0.heap.size w0 w) (hr : w0.heap.size ≤ r) (h : Moved w w' (some r) g) : Below w0.heap.size w0 w' ∧ w0.heap.size ≤ g :=
  ⟨k.trans ⟨h.1.os, h.1.tape, h.1.output, h.1.size, fun j hj => h.1.block j (Nat.lt_of_lt_of_le hj k.size) (by intro e; cases e; omega)⟩, h.2.elim (fun e => by cases e; exact hr) (fun h2 => Nat.le_trans k.size h2)⟩
theorem Moved.cell {w w' : World} {r : Option Nat} {g : Nat} (h : Moved w w' r g) {p : Addr} (hp : p.block < w.heap.size) (hn : some p.block ≠ r) : w'.cell? p = w.cell? p := World.cell?_of_block (w := w) (h.1.block p.block hp hn)
theorem Own.raise {w : World} {base base' g len cap : Nat} {l : List Nat} (h : Own w base (some ⟨g, 0, none⟩) len cap l) (hb : base' ≤ g) : Own w base' (some ⟨g, 0, none⟩) len cap l := by
  refine ⟨⟨h.1.1, ?_⟩, h.2⟩
  rcases h.1.2 with ⟨e, _⟩ | ⟨g', c, cur, e, _, r⟩
  · cases e
  · obtain ⟨e1, e2, e3⟩ : some (⟨g, 0, none⟩ : Addr) = some ⟨g', 0, none⟩ ∧ True ∧ cap = c := by
      simp only [Value.slice.injEq] at e; exact ⟨e.1, trivial, e.2.2⟩
    cases e1
    exact .inr ⟨g, c, cur, by rw [e3], hb, r⟩
def Onto (w : World) (r : Option Nat) (a : Option Addr) (len cap : Nat) (l : List Nat) : Prop :=
  (∃ g, r = some g ∧ a = some ⟨g, 0, none⟩ ∧ Own w 0 a len cap l) ∨ (r = none ∧ Octs w a len l ∧ cap = len ∧ 0 < len)
theorem Onto.below {w w' : World} {r : Option Nat} {a : Option Addr} {len cap : Nat} {l : List Nat} (h : Onto w r a len cap l) (k : Below w.heap.size w w') : Onto w' r a len cap l :=
  h.imp (fun ⟨g, h1, h2, h3⟩ => ⟨g, h1, h2, h3.below k⟩) (fun ⟨h1, h2, h3⟩ => ⟨h1, h2.below k, h3⟩)
theorem Onto.octs {w : World} {r : Option Nat} {a : Option Addr} {len cap : Nat} {l : List Nat} (h : Onto w r a len cap l) : Octs w a len l := by
  rcases h with ⟨g, h1, h2, h3⟩ | ⟨h1, h2, h3⟩
  · exact h3.octs
  · exact h2
theorem Onto.own {w : World} {base g len cap : Nat} {l : List Nat} (h : Own w base (some ⟨g, 0, none⟩) len cap l) : Onto w (some g) (some ⟨g, 0, none⟩) len cap l := .inl ⟨g, rfl, rfl, h.raise (Nat.zero_le _)⟩
theorem add_none (b off j : Nat) : (⟨b, off, none⟩ : Addr).add j = ⟨b, off + j, none⟩ := by
  unfold Addr.add; split
  · rename_i h; rw [h]; rfl
  · rfl
theorem octs_cells {w : World} {b off m : Nat} {l : List Nat} (h : Octs w (some ⟨b, off, none⟩) m l) : ∀ j u, (cellsOf l)[j]? = some u → w.cell? ((⟨b, off, none⟩ : Addr).add j) = some u := by
  intro j u hj
  have hjl : j < l.length := by
    rcases Nat.lt_or_ge j l.length with h' | h'
    · exact h'
    · rw [List.getElem?_eq_none (by rw [cellsOf_length]; exact h')] at hj; cases hj
  rw [cellsOf_at _ _ hjl] at hj
  have hl := h.1
  rcases h.2.2.2 with h0 | ⟨b', off', e, hlt, hc⟩
  · omega
  · cases e
    rw [add_none, hc j (by omega)]
    exact hj
theorem run_append_onto (ty : TypeId) {w : World} {r : Option Nat} {a1 : Option Addr} {len cap : Nat} {l : List Nat} (h : Onto w r a1 len cap l)
    (b off m c : Nat) (l2 : List Nat) (h2 : Octs w (some ⟨b, off, none⟩) m l2) (hm : 0 < m) (hb : len + m ≤ 1099511627776) :
    ∃ g cap' w', (Builtin.append_ #[22, 22] ty #[.slice a1 len cap, .slice (some ⟨b, off, none⟩) m c]).run Tryz.prog w = .ok (.slice (some ⟨g, 0, none⟩) (len + m) cap') w' ∧ Own w' 0 (some ⟨g, 0, none⟩) (len + m) cap' (l ++ l2) ∧ Moved w w' r g := by
  obtain ⟨i0, hi, hz0, hz1, hz2⟩ := info_parts info8
  have ol := h.octs
  have hl2 := h2.1
  have oct : Crc.Oct (l ++ l2) := fun y hy => by
    rcases List.mem_append.1 hy with hy | hy
    · exact ol.2.2.1 y hy
    · exact h2.2.2.1 y hy
  have hll : (l ++ l2).length = len + m := by rw [List.length_append, ol.1, hl2]
  have grows : cap < len + m → ∀ ad : Addr, a1 = some ad → (∀ j u, (cellsOf l)[j]? = some u → w.cell? (ad.add j) = some u) → ∃ g cap' w', (Builtin.append_ #[22, 22] ty #[.slice a1 len cap, .slice (some ⟨b, off, none⟩) m c]).run Tryz.prog w = .ok (.slice (some ⟨g, 0, none⟩) (len + m) cap') w' ∧ Own w' 0 (some ⟨g, 0, none⟩) (len + m) cap' (l ++ l2) ∧ w.grownBy w' none ∧ w.heap.size ≤ g := by
    intro hg ad had hcl
    subst had
    obtain ⟨v', w', hrun, r1, r2⟩ := run_append_arg_grows (P := Tryz.prog) w 22 ty 5 i0 (.int .u8 0) 1 1 Tryz.underlying22 hi hz0 hz1 hz2 rfl (by decide) ad len cap (cellsOf l) (by rw [cellsOf_length]; have := ol.1; omega) hcl ⟨b, off, none⟩ m c (cellsOf l2) (by rw [cellsOf_length]; omega) (octs_cells h2) hg (by unfold maxLen; omega) (by omega)
    rw [cellsOf_append] at r1
    rcases r1.2 with ⟨rfl, h0⟩ | ⟨g, cp, cur, rfl, hgs, hr⟩
    · omega
    · exact ⟨g, cp, w', hrun, ⟨⟨r1.1, .inr ⟨g, cp, cur, rfl, Nat.zero_le _, hr⟩⟩, oct, hll⟩, r2, hgs⟩
  rcases h with ⟨g, rfl, rfl, hown⟩ | ⟨rfl, hoc, rfl, hp⟩
  · by_cases hroom : len + m ≤ cap
    · obtain ⟨v', w', hr, o1, o2, _⟩ := run_append_own (P := Tryz.prog) w 0 22 ty 5 i0 (.int .u8 0) 1 1 Tryz.underlying22 hi hz0 hz1 hz2 rfl (by decide) _ len (cellsOf l) hown.1 ⟨b, off, none⟩ m c (cellsOf l2) (by rw [cellsOf_length]; omega) (octs_cells h2) (cellsOf_one l2) (by unfold maxLen; omega) (by omega) (Nat.zero_le _)
      rcases hown.1.2 with ⟨e, _⟩ | ⟨g', cap', cur, e, hbg, hg, hnc, hcm, hcs, htake⟩
      · cases e
      · obtain ⟨e1, e3⟩ : some (⟨g, 0, none⟩ : Addr) = some ⟨g', 0, none⟩ ∧ cap = cap' := by
          simp only [Value.slice.injEq] at e; exact ⟨e.1, e.2.2⟩
        cases e1
        subst e3
        have hr2 := run_append_room (P := Tryz.prog) w 22 ty 5 i0 Tryz.underlying22 hi g len cap cur hg ⟨b, off, none⟩ m c (cellsOf l2) (by rw [cellsOf_length, hz1]; omega) (octs_cells h2) (cellsOf_one l2) hroom (by rw [cellsOf_length, hz1]; omega)
        rw [hr2] at hr
        injection hr with e1 e2
        subst e1
        rw [cellsOf_append] at o1
        exact ⟨g, cap, w', by rw [hr2, e2], ⟨o1, oct, hll⟩, o2, .inl rfl⟩
    · obtain ⟨g', cap', w', r1, r2, r3, r4⟩ := grows (by omega) ⟨g, 0, none⟩ rfl (octs_cells ol)
      exact ⟨g', cap', w', r1, r2, ⟨r3.os, r3.tape, r3.output, r3.size, fun k hk _ => r3.block k hk (by simp)⟩, .inr r4⟩
  · rcases hoc.2.2.2 with h0 | ⟨b1, off1, rfl, hlt, hc⟩
    · omega
    · obtain ⟨g', cap', w', r1, r2, r3, r4⟩ := grows (by omega) ⟨b1, off1, none⟩ rfl (octs_cells ol)
      exact ⟨g', cap', w', r1, r2, r3, .inr r4⟩
theorem wpList_append_onto {w : World} {ops : Array Oper} {rest : List Oper} {o : Oper} {a : Act} {Q : Exit → Act → World → Prop} (hgd : o.guard = none) (s x : Operand)
    (ho : o.op = .call { callee := .builtin .append, args := #[s, x], argTypes := #[22, 22] })
    (r : Option Nat) (a1 : Option Addr) (len cap : Nat) (l : List Nat) (hs : a.eval s = .slice a1 len cap) (h1 : Onto w r a1 len cap l)
    (b off m c : Nat) (l2 : List Nat) (hx : a.eval x = .slice (some ⟨b, off, none⟩) m c) (h2 : Octs w (some ⟨b, off, none⟩) m l2) (hm : 0 < m) (hb : len + m ≤ 1099511627776)
    (tot : Nat) (ht : len + m = tot) (l3 : List Nat) (hl3 : l ++ l2 = l3)
    (h : ∀ g cap' w', Own w' 0 (some ⟨g, 0, none⟩) tot cap' l3 → Moved w w' r g → wpList Tryz.prog ops Q rest (a.put o.dst (.slice (some ⟨g, 0, none⟩) tot cap')) w') : wpList Tryz.prog ops Q (o :: rest) a w := by
  subst ht hl3
  refine wpList_plain hgd fun K hK' => ?_
  obtain ⟨g, cap', w', hrun, r1, r2⟩ := run_append_onto o.type h1 b off m c l2 h2 hm hb
  unfold Oper.wp
  simp [execOp, ho, resolve, invoke, builtin, hs, hx, hrun, Result.andThen]
  exact hK' _ _ (h g cap' w' r1 r2)
end Go.Proofs.YtniicgbkeifnjaaGreatDoor
namespace Go.Proofs.YtniicgbkeifnjaaGreatDoor
open Go.ChangeShapes Go.WideShapes Go.ChangeAt Go.RowKit
set_option linter.unusedVariables false
set_option maxRecDepth 100000
def fr (f : Wire.Fr) : Value := .agg #[.int .u8 f.k, .int .u8 f.l, .int .u16 f.s, .int .u8 f.a, .int .u8 f.b, .int .u32 f.x]
set_option maxHeartbeats 400000 in
theorem size_any (k : Nat) (hk : k < 256) (w : World) :
    Calls Tryz.prog 100 #[.int .u8 k] w fun e w' => e = .returned (.int .i64 (Wire.sizeOf k : Nat)) ∧ w' = w := by
  by_cases h1 : k = 1
  · subst h1
    go_enter Tryz.func100, Tryz.ntmps100
    go_wp2
    go_ret
    exact ⟨rfl, rfl⟩
  · by_cases h2 : k = 2
    · subst h2
      go_enter Tryz.func100, Tryz.ntmps100
      go_wp2
      go_ret
      exact ⟨rfl, rfl⟩
    · by_cases h3 : k = 3
      · subst h3
        go_enter Tryz.func100, Tryz.ntmps100
        go_wp2
        go_ret
        exact ⟨rfl, rfl⟩
      · go_enter Tryz.func100, Tryz.ntmps100
        go_wp2
        go_ret
        exact ⟨ret_int (by unfold Wire.sizeOf; rw [if_neg h1, if_neg (by omega)]; rfl), rfl⟩
set_option maxHeartbeats 1000000 in
theorem sound_any (f : Wire.Fr) (hf : f.ok) (w : World) :
    Calls Tryz.prog 97 #[fr f] w fun e w' => e = .returned (.bool f.sound) ∧ Below w.heap.size w w' := by
  obtain ⟨h1, h2, h3, h4, h5, h6⟩ := hf
  obtain ⟨k, l, s, a, b, x⟩ := f
  simp only at h1 h2 h3 h4 h5 h6
  unfold fr
  simp only
  go_enter Tryz.func97, Tryz.ntmps97
  go_wp2
  all_goals
    go_ret
    refine ⟨ret_bool ?_, fresh _ _⟩
    rw [Bool.eq_iff_iff, Wire.Fr.sound_iff]
    simp_all
    try omega
set_option maxHeartbeats 1000000 in
theorem refSound_any (f : Wire.Fr) (hf : f.ok) (w : World) :
    Calls Tryz.prog 77 #[fr f] w fun e w' => e = .returned (.bool f.sound) ∧ Below w.heap.size w w' := by
  obtain ⟨h1, h2, h3, h4, h5, h6⟩ := hf
  obtain ⟨k, l, s, a, b, x⟩ := f
  simp only at h1 h2 h3 h4 h5 h6
  unfold fr
  simp only
  go_enter Tryz.func77, Tryz.ntmps77
  go_wp2
  all_goals
    go_ret
    refine ⟨ret_bool ?_, fresh _ _⟩
    rw [Bool.eq_iff_iff, Wire.Fr.sound_iff]
    simp_all
    try omega
set_option maxHeartbeats 400000 in
theorem append16_any (r : Option Nat) (a : Option Addr) (len cap n : Nat) (l : List Nat) (hn : n < 65536) (hlen : len ≤ 1000) (w : World) (h : Onto w r a len cap l) :
    Calls Tryz.prog 158 #[.slice a len cap, .int .u16 n] w fun e w' => ∃ g cap', e = .returned (.slice (some ⟨g, 0, none⟩) (len + 2 : Nat) cap') ∧ Own w' 0 (some ⟨g, 0, none⟩) (len + 2) cap' (l ++ Wire.be n) ∧ Moved w w' r g := by
  have HO : Hid (Onto w r a len cap l) := h
  clear h
  go_enter Tryz.func158, Tryz.ntmps158
  go_wp2_with (at_builtin; refine wpList_append_onto rfl _ _ rfl r a len cap l rfl (HO.out.below (fresh _ _)) _ 0 2 2 (Wire.be n) rfl (two_is w _ _ _ _ (by omega) (by omega) (by omega) (by omega)) (by omega) (by omega) (len + 2) rfl _ rfl ?_; intro g cap' w' hown hmv)
  go_ret
  exact ⟨g, cap', rfl, hown, Moved.ahead (fresh _ _) hmv⟩
end Go.Proofs.YtniicgbkeifnjaaGreatDoor
