/-
  The law RingsHead of package shunterlaw08, over a slice of calls that is handed in. Conditions: that the numbers are of their kinds, and the slice leads to calls.
-/
import Derived.Test.YtpbeldcaiceakaaRingBox
namespace Go.Proofs.Ytpbeldcaiceakaa
open Go.ChangeShapes Go.WideShapes Go.ChangeAt Go.RowKit
set_option linter.unusedVariables false

theorem Mine.len_le {G : Nat → Prop} {w0 w : World} {p P L n t c : Nat} {Qs : Pl → List Pk} (m : Mine G w0 w p P L n t c Qs) (q : Pl) : (Qs q).length ≤ c := by
  obtain ⟨F, ⟨G, pp, mb, S, E, V, sl, h, _⟩, _⟩ := m
  have := (h.held q).1
  have := h.len q
  omega
theorem hd_tail (l : List Pk) : (l.tail).length = l.length - 1 := List.length_tail
theorem empty_pos (l : List Pk) (n : Nat) (h : l.length = n) : (!l.isEmpty) = decide (0 < n) := by
  subst h
  cases l <;> simp
set_option maxRecDepth 100000 in
set_option maxHeartbeats 4000000 in
theorem ringsHead_walk (a : Option Addr) (len cap : Nat) (os : List OpV) (a1 a2 a3 : Int) (h1 : 0 ≤ a1 ∧ a1 ≤ 255) (h2 : 0 ≤ a2 ∧ a2 ≤ 255) (h3 : 0 ≤ a3 ∧ a3 ≤ 255) (w : World) (ho : Ops w a len os) :
    Calls Try.prog 4 #[.slice a len cap, .int .u8 a1, .int .u8 a2, .int .u8 a3] w fun e w' => e = .returned (.bool true) ∧ Below w.heap.size w w' := by
  have HO : Hid (Ops w a len os) := ho
  have hl1 := ho.2.1
  clear ho
  obtain ⟨h10, h11⟩ := h1
  obtain ⟨h20, h21⟩ := h2
  obtain ⟨h30, h31⟩ := h3
  obtain ⟨i, hi⟩ : ∃ i : Nat, a1 % 3 = i := ⟨(a1 % 3).toNat, by omega⟩
  obtain ⟨o, ho⟩ : ∃ o : Nat, a2 % 3 = o := ⟨(a2 % 3).toNat, by omega⟩
  obtain ⟨l, hl⟩ : ∃ l : Nat, a3 % 2 = l := ⟨(a3 % 2).toNat, by omega⟩
  have hi2 : i < 3 := by omega
  have ho2 : o < 3 := by omega
  have hl2 : l < 2 := by omega
  by_cases hb : 60 < len
  · go_enter Try.func4, Try.ntmps4
    go_wp2_with fail
    refine (known_any _).mono ?_
    rintro e u1 ⟨rfl, b1⟩
    go_wp2_with fail
    go_ret
    exact ⟨rfl, b1⟩
  · have hb2 : ¬ (60 : Int) < len := by omega
    go_enter Try.func4, Try.ntmps4
    go_wp2_with fail
    refine (known_any _).mono ?_
    rintro e u0 ⟨rfl, b0⟩
    go_wp2_with fail
    refine (m_new (w0 := w) 3 2 100 (by omega) (by omega) (by omega) b0 (G := fun _ => False) nothing).mono ?_
    rintro e u1 ⟨p, rfl, m1, _⟩
    have H1 : Hid (Solo w u1 p 3 2 100 0 0 (fun _ => [])) := m1
    clear m1 b0
    go_wp2_with fail
    go_loopw [10, 11] (fun j _ wr => ∃ (k t : Nat) (Qs : Pl → List Pk), k ≤ len ∧ j = .int .i64 k ∧ Solo w wr p 3 2 100 t k Qs) (fun j _ _ => len - (intOf j).toNat)
    case atStart => exact ⟨0, 0, _, Nat.zero_le _, rfl, H1.out⟩
    case round =>
      obtain ⟨k, t, Qs, hk, rfl, hm⟩ := hrel
      have HM : Hid (Solo w wr p 3 2 100 t k Qs) := hm
      clear hm H1
      by_cases hkl : k < len
      · obtain ⟨b, off, v, rfl, hat⟩ := HO.out.at hkl
        obtain ⟨q1, q2, q3, q4, q5, ⟨q6, q7, q8, q9⟩, hok⟩ := hat.below HM.out.below
        obtain ⟨vk, vi, vo, vl, vn, vx⟩ := v
        simp only at q1 q2 q3 q4 q5 q6 q7 q8 q9
        have HK : Hid (OpV.ok ⟨vk, vi, vo, vl, true, vx⟩) := hok
        clear hat hok
        have hkl2 : (k : Int) < len := by omega
        go_wp2_with fail
        refine (near_any ⟨vk, vi, vo, vl, true, vx⟩ HK.out _).mono ?_
        rintro e u2 ⟨rfl, b2⟩
        have H2 : Hid (Mine (fun j => j = wr.heap.size) w u2 p 3 2 100 t k Qs ∧ Nine u2 wr.heap.size) := ⟨((HM.out.wider (G' := fun j => j = wr.heap.size) (fun j e => .inr (by omega))).on (fresh _ _)).on b2, (Nine.new wr _ _ _ _ _ _ _ _ _ _).below b2⟩
        obtain ⟨⟨v0, r0⟩, ⟨v1, r1⟩, ⟨v2, r2⟩, ⟨v3, r3⟩, ⟨v4, r4⟩, ⟨v5, r5⟩, ⟨v6, r6⟩, ⟨v7, r7⟩, ⟨v8, r8⟩, f0, f1, f2, f3, f4, f5, f6, f7, f8⟩ := H2.out.2
        obtain ⟨i', hi'⟩ : ∃ i', nv true 3 vi = i' := ⟨_, rfl⟩
        obtain ⟨o', ho'⟩ : ∃ o', nv true 3 vo = o' := ⟨_, rfl⟩
        obtain ⟨l', hl'⟩ : ∃ l', nv true 2 vl = l' := ⟨_, rfl⟩
        have hwf : Wf (i', o', l') := by
          rw [← hi', ← ho', ← hl']
          exact near_wf HK.out
        simp only [hi', ho', hl']
        clear b2 hi' ho' hl' q1 q2 q3 q4 q5 q6 q7 q8 q9
        go_wp2_with fail
        have HZ : Hid (Mine (fun j => j = wr.heap.size) w (lay9 u2 wr.heap.size ⟨vk, i', o', l', true, vx⟩) p 3 2 100 t k Qs) := H2.out.1.side (lay9_sans _ _ _) (fun j e => by rw [e]; exact HM.out.below.size)
        have hlt : Hid (wr.heap.size < u2.heap.size) := H2.out.2.lt
        obtain ⟨bt, hbt⟩ : ∃ bt, takes 3 2 100 t (i', o', l') = bt := ⟨_, rfl⟩
        refine (m_push HZ.out (fun j e => by rw [e]; exact Nat.lt_of_lt_of_le hlt.out (lay9_sans u2 wr.heap.size ⟨vk, i', o', l', true, vx⟩).size) (by omega) i' o' l' hwf vx bt hbt).mono ?_
        rintro e u3 ⟨rfl, m3, _⟩
        have H3 : Hid (Solo w u3 p 3 2 100 (pushT bt t) (k + 1) (pushQ bt Qs (i', o', l') vx)) := m3.wider (fun j e => e.elim)
        clear m3 HZ H2 hbt r0 r1 r2 r3 r4 r5 r6 r7 r8 f0 f1 f2 f3 f4 f5 f6 f7 f8
        go_wp2_with fail
        go_roundw
        case rel => exact ⟨k + 1, _, _, by omega, by go_num, H3.out⟩
        case measure => simp [intOf]; omega
      · obtain rfl : k = len := by omega
        obtain ⟨m, hm⟩ : ∃ m, (Qs (i, o, l)).length = m := ⟨_, rfl⟩
        obtain ⟨x, hx⟩ : ∃ x, hd (Qs (i, o, l)) = x := ⟨_, rfl⟩
        have HX : Hid ((Qs (i, o, l)).length = m ∧ hd (Qs (i, o, l)) = x ∧ Wf ((i : Int), (o : Int), (l : Int))) := ⟨hm, hx, wfSmall (by omega)⟩
        have hm1000 : Hid (k < 900) := by show k < 900; omega
        have hm60 : m ≤ 900 := by have := HM.out.len_le (i, o, l); rw [hm] at this; omega
        clear hm hx
        go_wp2_with fail
        refine (m_len HM.out i o l HX.out.2.2 m HX.out.1).mono ?_
        rintro e u2 ⟨rfl, hu2⟩
        rw [← hu2] at HM
        clear hu2
        go_wp2_with fail
        refine (m_head HM.out i o l HX.out.2.2 x (decide (0 < m)) HX.out.2.1 (empty_pos _ _ HX.out.1)).mono ?_
        rintro e u3 ⟨rfl, m3, _⟩
        have H3 : Hid (Mine (fun j => j = u3.heap.size) w u3 p 3 2 100 t k Qs) := m3.wider (fun j e => .inr (by omega))
        clear m3 HM
        go_wp2_with fail
        refine (m_head (H3.out.on (fresh _ _)) i o l HX.out.2.2 x (decide (0 < m)) HX.out.2.1 (empty_pos _ _ HX.out.1)).mono ?_
        rintro e u4 ⟨rfl, m4, b4⟩
        have hu34 : ¬ u3.heap.size = u4.heap.size := by have := b4.size; simp at this; omega
        have H4 : Hid (Mine (fun j => j = u3.heap.size ∨ j = u4.heap.size) w (u4.alloc (.cells #[.int .i64 x.s, .int .i64 x.d, .int .i64 x.l, .int .u32 x.b] 27)) p 3 2 100 t k Qs ∧ PkAt (u4.alloc (.cells #[.int .i64 x.s, .int .i64 x.d, .int .i64 x.l, .int .u32 x.b] 27)) u3.heap.size 0 x ∧ PkAt (u4.alloc (.cells #[.int .i64 x.s, .int .i64 x.d, .int .i64 x.l, .int .u32 x.b] 27)) u4.heap.size 0 x) :=
          ⟨(m4.wider (G' := fun j => j = u3.heap.size ∨ j = u4.heap.size) (fun j e => e.imp id (fun e => by omega))).on (fresh _ _), ((PkAt.new u3 x).below b4).below (fresh _ _), PkAt.new u4 x⟩
        clear m4 b4 H3
        go_wp2_with fail
        refine (m_pop H4.out.1 (fun j e => e.elim (fun e => by rw [e]; exact H4.out.2.1.lt) (fun e => by rw [e]; exact H4.out.2.2.lt)) (by have := hm1000.out; omega) i o l HX.out.2.2 x (decide (0 < m)) HX.out.2.1 (empty_pos _ _ HX.out.1)).mono ?_
        rintro e u5 ⟨rfl, m5, s5⟩
        have H5 : Hid (Mine (fun j => j = u3.heap.size ∨ j = u4.heap.size) w (u5.alloc (.cells #[.int .i64 x.s, .int .i64 x.d, .int .i64 x.l, .int .u32 x.b] 27)) p 3 2 100 (popT (decide (0 < m)) t) (k + 1) (upd Qs (↑i, ↑o, ↑l) (Qs (↑i, ↑o, ↑l)).tail)) := m5.on (fresh _ _)
        obtain ⟨x0, x1, x2, x3⟩ := (H4.out.2.1.sans s5 (fun e => e (.inl rfl))).below (fresh u5 (.cells #[.int .i64 x.s, .int .i64 x.d, .int .i64 x.l, .int .u32 x.b] 27))
        obtain ⟨y0, y1, y2, y3⟩ := (H4.out.2.2.sans s5 (fun e => e (.inr rfl))).below (fresh u5 (.cells #[.int .i64 x.s, .int .i64 x.d, .int .i64 x.l, .int .u32 x.b] 27))
        have hlen : Hid (((upd Qs (↑i, ↑o, ↑l) (Qs (↑i, ↑o, ↑l)).tail) (↑i, ↑o, ↑l)).length = m - 1) := by
          show _ = _
          rw [upd_same, hd_tail, HX.out.1]
        have hdm : decide (0 < (m : Int)) = decide (0 < m) := by simp
        clear m5 s5 H4
        go_wp2_with fail
        refine (m_len H5.out i o l HX.out.2.2 (m - 1) hlen.out).mono ?_
        rintro e u6 ⟨rfl, hu6⟩
        rw [← hu6] at H5
        clear hu6
        go_wp2_with fail
        all_goals
          go_ret
          exact ⟨ret_bool (by simp; omega), H5.out.below⟩
theorem ringsHead_any (_ : True) (w : World) (a : Option Addr) (len cap : Nat) (os : List OpV) (ho : Ops w a len os) (a1 : Int) (w1 : (Lit.int .u8 a1).wf = true) (a2 : Int) (w2 : (Lit.int .u8 a2).wf = true) (a3 : Int) (w3 : (Lit.int .u8 a3).wf = true) :
    Calls Try.prog 4 #[.slice a len cap, .int .u8 a1, .int .u8 a2, .int .u8 a3] w fun e w' => e = .returned (.bool true) ∧ Below w.heap.size w w' :=
  ringsHead_walk a len cap os a1 a2 a3 (bounds_u8 w1) (bounds_u8 w2) (bounds_u8 w3) w ho
end Go.Proofs.Ytpbeldcaiceakaa
