/-
  The law RingsRoom of package shunterlaw08, over a slice of calls that is handed in. Conditions: that the number is of its kind, and the slice leads to calls.
-/
import Derived.Test.YtpbeldcaiceakaaRingBox
namespace Go.Proofs.Ytpbeldcaiceakaa
open Go.ChangeShapes Go.WideShapes Go.ChangeAt Go.RowKit
set_option linter.unusedVariables false

/-- the places, one behind the other -/
def pl18 (q : Nat) : Pl := ((q : Int) / 6, (q : Int) / 2 % 3, (q : Int) % 2)
def psum (Qs : Pl → List Pk) : Nat → Nat
  | 0 => 0
  | n + 1 => psum Qs n + (Qs (pl18 n)).length
theorem pl18_inj {q r : Nat} (hq : q < 18) (hr : r < 18) (h : pl18 q = pl18 r) : q = r := by
  simp only [pl18, Prod.mk.injEq] at h
  omega
theorem pl18_of {i o l : Int} (hi : 0 ≤ i ∧ i < 3) (ho : 0 ≤ o ∧ o < 3) (hl : 0 ≤ l ∧ l < 2) : ∃ q, q < 18 ∧ pl18 q = (i, o, l) := by
  refine ⟨6 * i.toNat + 2 * o.toNat + l.toNat, by omega, ?_⟩
  simp only [pl18, Prod.mk.injEq]
  omega
theorem psum_other {Qs : Pl → List Pk} {p : Pl} {v : List Pk} : ∀ n, (∀ q, q < n → pl18 q ≠ p) → psum (upd Qs p v) n = psum Qs n
  | 0, _ => rfl
  | n + 1, h => by
    unfold psum
    rw [psum_other n (fun q hq => h q (by omega)), upd_other _ _ (h n (by omega))]
theorem psum_upd {Qs : Pl → List Pk} {v : List Pk} {q : Nat} (hq : q < 18) : ∀ n, n ≤ 18 → q < n → psum (upd Qs (pl18 q) v) n + (Qs (pl18 q)).length = psum Qs n + v.length
  | 0, _, h => by omega
  | n + 1, h18, h => by
    unfold psum
    by_cases e : q = n
    · subst e
      rw [psum_other q (fun r hr e => by have := pl18_inj (by omega) (by omega) e; omega), upd_same]
      omega
    · have := psum_upd (Qs := Qs) (v := v) hq n (by omega) (by omega)
      rw [upd_other _ _ (fun e2 => e (pl18_inj (by omega) (by omega) e2).symm)]
      omega
theorem psum_at {Qs : Pl → List Pk} {v : List Pk} {i o l : Int} (hi : 0 ≤ i ∧ i < 3) (ho : 0 ≤ o ∧ o < 3) (hl : 0 ≤ l ∧ l < 2) : psum (upd Qs (i, o, l) v) 18 + (Qs (i, o, l)).length = psum Qs 18 + v.length := by
  obtain ⟨q, hq, e⟩ := pl18_of hi ho hl
  rw [← e]
  exact psum_upd hq 18 (by omega) hq
theorem psum_le {Qs : Pl → List Pk} {q : Nat} : ∀ n, q ≤ n → psum Qs q ≤ psum Qs n
  | 0, h => by
    obtain rfl : q = 0 := by omega
    exact Nat.le_refl _
  | n + 1, h => by
    by_cases e : q = n + 1
    · rw [e]; exact Nat.le_refl _
    · have := psum_le (Qs := Qs) (q := q) n (by omega)
      show psum Qs q ≤ psum Qs n + _
      omega
theorem psum_nothing : ∀ n, psum (fun _ => []) n = 0
  | 0 => rfl
  | n + 1 => by unfold psum; rw [psum_nothing n]; rfl
theorem takes_in {n t : Nat} {i o l : Int} (hi : 0 ≤ i ∧ i < 3) (ho : 0 ≤ o ∧ o < 3) (hl : 0 ≤ l ∧ l < 2) : takes 3 2 n t (i, o, l) = decide (t < n) := by
  unfold takes
  by_cases h : t < n
  · rw [decide_eq_true h]
    exact decide_eq_true ⟨⟨hi, ho, hl⟩, h⟩
  · rw [decide_eq_false h]
    exact decide_eq_false (fun e => h e.2)
theorem Mine.len_le {G : Nat → Prop} {w0 w : World} {p P L n t c : Nat} {Qs : Pl → List Pk} (m : Mine G w0 w p P L n t c Qs) (q : Pl) : (Qs q).length ≤ c := by
  obtain ⟨F, ⟨G, pp, mb, S, E, V, sl, h, _⟩, _⟩ := m
  have := (h.held q).1
  have := h.len q
  omega
set_option maxRecDepth 100000 in
set_option maxHeartbeats 4000000 in
theorem ringsRoom_walk (a0 : Int) (h0 : 0 ≤ a0 ∧ a0 ≤ 255) (a : Option Addr) (len cap : Nat) (os : List OpV) (w : World) (ho : Ops w a len os) :
    Calls Try.prog 7 #[.int .u8 a0, .slice a len cap] w fun e w' => e = .returned (.bool true) ∧ Below w.heap.size w w' := by
  have HO : Hid (Ops w a len os) := ho
  have hl1 := ho.2.1
  clear ho
  obtain ⟨h00, h01⟩ := h0
  obtain ⟨n, hn⟩ : ∃ n : Nat, 1 + a0 % 40 = n := ⟨(1 + a0 % 40).toNat, by omega⟩
  have hn1 : 1 ≤ n := by omega
  have hn2 : n ≤ 40 := by omega
  by_cases hb : 100 < len
  · go_enter Try.func7, Try.ntmps7
    go_wp2_with fail
    refine (known_any _).mono ?_
    rintro e u1 ⟨rfl, b1⟩
    go_wp2_with fail
    go_ret
    exact ⟨rfl, b1⟩
  · have hb2 : ¬ (100 : Int) < len := by omega
    go_enter Try.func7, Try.ntmps7
    go_wp2_with fail
    refine (known_any _).mono ?_
    rintro e u0 ⟨rfl, b0⟩
    go_wp2_with fail
    refine (m_new (w0 := w) 3 2 n (by omega) (by omega) (by omega) b0 (G := fun _ => False) nothing).mono ?_
    rintro e u1 ⟨p, rfl, m1, _⟩
    have H1 : Hid (Solo w u1 p 3 2 n 0 0 (fun _ => [])) := m1
    clear m1 b0
    go_wp2_with fail
    go_loopw [7, 8, 9, 10, 11, 12, 13] (fun f j _ _ _ _ _ wr => ∃ (k t : Nat) (Qs : Pl → List Pk), k ≤ len ∧ j = .int .i64 k ∧ f = .int .i64 t ∧ Solo w wr p 3 2 n t k Qs ∧ psum Qs 18 = t) (fun _ j _ _ _ _ _ _ => len - (intOf j).toNat)
    case atStart => exact ⟨0, 0, _, Nat.zero_le _, rfl, rfl, H1.out, psum_nothing 18⟩
    case round =>
      obtain ⟨k, t, Qs, hk, rfl, rfl, hm, hp⟩ := hrel
      have HM : Hid (Solo w wr p 3 2 n t k Qs ∧ psum Qs 18 = t) := ⟨hm, hp⟩
      clear hm hp H1
      have htn := HM.out.1.top
      by_cases hkl : k < len
      · obtain ⟨b, off, v, rfl, hat⟩ := HO.out.at hkl
        obtain ⟨q1, q2, q3, q4, q5, ⟨q6, q7, q8, q9⟩, hok⟩ := hat.below HM.out.1.below
        obtain ⟨vk, vi, vo, vl, vn, vx⟩ := v
        simp only at q1 q2 q3 q4 q5 q6 q7 q8 q9
        have HK : Hid (OpV.ok ⟨vk, vi, vo, vl, true, vx⟩) := hok
        have hvk : vk < 256 := hok.1
        clear hat hok
        have hkl2 : (k : Int) < len := by omega
        go_wp2_with fail
        refine (near_any ⟨vk, vi, vo, vl, true, vx⟩ HK.out _).mono ?_
        rintro e u2 ⟨rfl, b2⟩
        have H2 : Hid (Mine (fun j => j = wr.heap.size) w u2 p 3 2 n t k Qs ∧ Nine u2 wr.heap.size) := ⟨((HM.out.1.wider (G' := fun j => j = wr.heap.size) (fun j e => .inr (by omega))).on (fresh _ _)).on b2, (Nine.new wr _ _ _ _ _ _ _ _ _ _).below b2⟩
        obtain ⟨⟨v0, r0⟩, ⟨v1, r1⟩, ⟨v2, r2⟩, ⟨v3, r3⟩, ⟨v4, r4⟩, ⟨v5, r5⟩, ⟨v6, r6⟩, ⟨v7, r7⟩, ⟨v8, r8⟩, f0, f1, f2, f3, f4, f5, f6, f7, f8⟩ := H2.out.2
        obtain ⟨i', hi'⟩ : ∃ i', nv true 3 vi = i' := ⟨_, rfl⟩
        obtain ⟨o', ho'⟩ : ∃ o', nv true 3 vo = o' := ⟨_, rfl⟩
        obtain ⟨l', hl'⟩ : ∃ l', nv true 2 vl = l' := ⟨_, rfl⟩
        have HW : Hid (Wf (i', o', l') ∧ (0 ≤ i' ∧ i' < 3) ∧ (0 ≤ o' ∧ o' < 3) ∧ (0 ≤ l' ∧ l' < 2)) := by
          rw [← hi', ← ho', ← hl']
          exact ⟨near_wf HK.out, nv_in (by omega), nv_in (by omega), nv_in (by omega)⟩
        simp only [hi', ho', hl']
        clear b2 hi' ho' hl' q1 q2 q3 q4 q5 q6 q7 q8 q9
        have HZ : Hid (Mine (fun j => j = wr.heap.size) w (lay9 u2 wr.heap.size ⟨vk, i', o', l', true, vx⟩) p 3 2 n t k Qs) := H2.out.1.side (lay9_sans _ _ _) (fun j e => by rw [e]; exact HM.out.1.below.size)
        have hlt : Hid (∀ j, j = wr.heap.size → j < (lay9 u2 wr.heap.size ⟨vk, i', o', l', true, vx⟩).heap.size) := fun j e => by rw [e]; exact Nat.lt_of_lt_of_le H2.out.2.lt (lay9_sans u2 wr.heap.size ⟨vk, i', o', l', true, vx⟩).size
        have HI : Hid (OpIn (lay9 u2 wr.heap.size ⟨vk, i', o', l', true, vx⟩) wr.heap.size ⟨vk, i', o', l', true, vx⟩) := lay9_in H2.out.2
        by_cases hk6 : vk % 6 < 3
        · have hk6' : (vk : Int) % 6 < 3 := by omega
          by_cases ht : t < n
          · have ht' : (t : Int) < n := by omega
            go_wp2_with fail
            refine (m_push HZ.out hlt.out (by omega) i' o' l' HW.out.1 vx true (by rw [takes_in HW.out.2.1 HW.out.2.2.1 HW.out.2.2.2, decide_eq_true ht])).mono ?_
            rintro e u3 ⟨rfl, m3, _⟩
            have H3 : Hid (Solo w u3 p 3 2 n (t + 1) (k + 1) (upd Qs (i', o', l') (Qs (i', o', l') ++ [vx])) ∧ psum (upd Qs (i', o', l') (Qs (i', o', l') ++ [vx])) 18 = t + 1) := ⟨m3.wider (fun j e => e.elim), by
              have h1 := psum_at (Qs := Qs) (v := Qs (i', o', l') ++ [vx]) HW.out.2.1 HW.out.2.2.1 HW.out.2.2.2
              have h2 := HM.out.2
              rw [List.length_append] at h1
              simp at h1
              omega⟩
            clear m3 HZ H2 r0 r1 r2 r3 r4 r5 r6 r7 r8 f0 f1 f2 f3 f4 f5 f6 f7 f8
            go_wp2_with fail
            go_roundw
            case rel => exact ⟨k + 1, t + 1, _, by omega, by go_num, by go_num, H3.out⟩
            case measure => simp [intOf]; omega
          · have ht' : ¬ (t : Int) < n := by omega
            go_wp2_with fail
            refine (m_push HZ.out hlt.out (by omega) i' o' l' HW.out.1 vx false (by rw [takes_in HW.out.2.1 HW.out.2.2.1 HW.out.2.2.2, decide_eq_false ht])).mono ?_
            rintro e u3 ⟨rfl, m3, _⟩
            have H3 : Hid (Solo w u3 p 3 2 n t (k + 1) Qs ∧ psum Qs 18 = t) := ⟨m3.wider (fun j e => e.elim), HM.out.2⟩
            clear m3 HZ H2 r0 r1 r2 r3 r4 r5 r6 r7 r8 f0 f1 f2 f3 f4 f5 f6 f7 f8
            go_wp2_with fail
            go_roundw
            case rel => exact ⟨k + 1, t, _, by omega, by go_num, by go_num, H3.out⟩
            case measure => simp [intOf]; omega
        · have hk6' : ¬ (vk : Int) % 6 < 3 := by omega
          obtain ⟨m, hm⟩ : ∃ m, (Qs (i', o', l')).length = m := ⟨_, rfl⟩
          obtain ⟨x, hx⟩ : ∃ x, hd (Qs (i', o', l')) = x := ⟨_, rfl⟩
          have HX : Hid ((Qs (i', o', l')).length = m ∧ hd (Qs (i', o', l')) = x) := ⟨hm, hx⟩
          have hm60 : m ≤ 900 := by have := HM.out.1.len_le (i', o', l'); rw [hm] at this; omega
          clear hm hx
          by_cases h0 : 0 < m
          · have h0' : (0 : Int) < m := by omega
            obtain ⟨t1, rfl⟩ : ∃ t1, t = t1 + 1 := ⟨t - 1, by have := HM.out.1.pos (q := (i', o', l')) (fun e => by have := HX.out.1; rw [e] at this; simp at this; omega); omega⟩
            go_wp2_with fail
            refine (m_len HZ.out i' o' l' HW.out.1 m HX.out.1).mono ?_
            rintro e u3 ⟨rfl, hu3⟩
            rw [← hu3] at HZ hlt HI
            clear hu3
            obtain ⟨z0, z1, z2, z3, z4, z5, z6, z7, z8⟩ := HI.out
            simp only at z0 z1 z2 z3 z4 z5 z6 z7 z8
            clear r0 r1 r2 r3 r4 r5 r6 r7 r8 f0 f1 f2 f3 f4 f5 f6 f7 f8
            go_wp2_with fail
            refine (m_pop HZ.out hlt.out (by omega) i' o' l' HW.out.1 x true HX.out.2 (by have := HX.out.1; cases hc : Qs (i', o', l') with | nil => rw [hc] at this; simp at this; omega | cons y r => rfl)).mono ?_
            rintro e u4 ⟨rfl, m4, _⟩
            have H3 : Hid (Solo w (u4.alloc (.cells #[.int .i64 x.s, .int .i64 x.d, .int .i64 x.l, .int .u32 x.b] 27)) p 3 2 n t1 (k + 1) (upd Qs (i', o', l') (Qs (i', o', l')).tail) ∧ psum (upd Qs (i', o', l') (Qs (i', o', l')).tail) 18 = t1) := ⟨(m4.wider (G' := fun _ => False) (fun j e => e.elim)).on (fresh _ _), by
              have h1 := psum_at (Qs := Qs) (v := (Qs (i', o', l')).tail) HW.out.2.1 HW.out.2.2.1 HW.out.2.2.2
              have h2 := HM.out.2
              rw [List.length_tail, HX.out.1] at h1
              omega⟩
            clear m4 HZ H2 z0 z1 z2 z3 z4 z5 z6 z7 z8
            go_wp2_with fail
            go_roundw
            case rel => exact ⟨k + 1, t1, _, by omega, by go_num, by go_num, H3.out⟩
            case measure => simp [intOf]; omega
          · obtain rfl : m = 0 := by omega
            go_wp2_with fail
            refine (m_len HZ.out i' o' l' HW.out.1 0 HX.out.1).mono ?_
            rintro e u3 ⟨rfl, hu3⟩
            rw [← hu3] at HZ hlt HI
            clear hu3
            obtain ⟨z0, z1, z2, z3, z4, z5, z6, z7, z8⟩ := HI.out
            simp only at z0 z1 z2 z3 z4 z5 z6 z7 z8
            clear r0 r1 r2 r3 r4 r5 r6 r7 r8 f0 f1 f2 f3 f4 f5 f6 f7 f8
            go_wp2_with fail
            refine (m_pop HZ.out hlt.out (by omega) i' o' l' HW.out.1 x false HX.out.2 (by rw [List.length_eq_zero_iff.1 HX.out.1]; rfl)).mono ?_
            rintro e u4 ⟨rfl, m4, _⟩
            have H3 : Hid (Solo w (u4.alloc (.cells #[.int .i64 x.s, .int .i64 x.d, .int .i64 x.l, .int .u32 x.b] 27)) p 3 2 n t (k + 1) (upd Qs (i', o', l') (Qs (i', o', l')).tail) ∧ psum (upd Qs (i', o', l') (Qs (i', o', l')).tail) 18 = t) := ⟨(m4.wider (G' := fun _ => False) (fun j e => e.elim)).on (fresh _ _), by
              have h1 := psum_at (Qs := Qs) (v := (Qs (i', o', l')).tail) HW.out.2.1 HW.out.2.2.1 HW.out.2.2.2
              have h2 := HM.out.2
              rw [List.length_tail, HX.out.1] at h1
              omega⟩
            clear m4 HZ H2 z0 z1 z2 z3 z4 z5 z6 z7 z8
            go_wp2_with fail
            go_roundw
            case rel => exact ⟨k + 1, t, _, by omega, by go_num, by go_num, H3.out⟩
            case measure => simp [intOf]; omega
      · obtain rfl : k = len := by omega
        go_wp2_with fail
        go_loopw [14, 15] (fun s j wq => ∃ q : Nat, q ≤ 18 ∧ j = .int .i64 q ∧ s = .int .i64 (psum Qs q) ∧ wq = wr) (fun _ j _ => 18 - (intOf j).toNat)
        case atStart => exact ⟨0, Nat.zero_le _, rfl, rfl, rfl⟩
        case round =>
          obtain ⟨q, hq, rfl, rfl, rfl⟩ := hrel
          by_cases hq18 : q < 18
          · have hq18' : (q : Int) < 18 := by omega
            obtain ⟨m, hm⟩ : ∃ m, (Qs (pl18 q)).length = m := ⟨_, rfl⟩
            obtain ⟨z, hz⟩ : ∃ z, psum Qs q = z := ⟨_, rfl⟩
            have hz1 : psum Qs (q + 1) = z + m := by rw [← hm, ← hz]; rfl
            have hle := psum_le (Qs := Qs) (q := q + 1) 18 (by omega)
            rw [HM.out.2, hz1] at hle
            have HQ : Hid ((Qs (pl18 q)).length = m ∧ psum Qs (q + 1) = z + m) := ⟨hm, hz1⟩
            have hzm : z + m ≤ 40 := by omega
            have hzm' : (z : Int) + m ≤ 40 := by omega
            have HW : Hid (Wf (pl18 q)) := wfSmall (by omega)
            rw [hz]
            clear hm hz hz1 hle
            go_wp2_with fail
            refine (m_len HM.out.1 _ _ _ HW.out m HQ.out.1).mono ?_
            rintro e u3 ⟨rfl, rfl⟩
            go_wp2_with fail
            go_roundw
            case rel => exact ⟨q + 1, by omega, by go_num, by rw [HQ.out.2]; go_num, by first | rfl | trivial⟩
            case measure => simp [intOf]; omega
          · obtain rfl : q = 18 := by omega
            have hps := HM.out.2
            rw [hps]
            clear hps
            go_wp2_with fail
            go_ret
            exact ⟨ret_bool (by simp), HM.out.1.below⟩
theorem ringsRoom_any (_ : True) (w : World) (a0 : Int) (w0 : (Lit.int .u8 a0).wf = true) (a : Option Addr) (len cap : Nat) (os : List OpV) (ho : Ops w a len os) :
    Calls Try.prog 7 #[.int .u8 a0, .slice a len cap] w fun e w' => e = .returned (.bool true) ∧ Below w.heap.size w w' :=
  ringsRoom_walk a0 (bounds_u8 w0) a len cap os w ho
end Go.Proofs.Ytpbeldcaiceakaa
