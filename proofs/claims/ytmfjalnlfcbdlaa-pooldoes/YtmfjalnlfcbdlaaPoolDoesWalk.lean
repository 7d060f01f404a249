/-
  The law PoolDoes of package shunterlaw07, over a slice of calls that is handed in. Conditions: that the number is of its kind, and the slice leads to calls.
-/
import Derived.Test.YtmfjalnlfcbdlaaPoolBoth
namespace Go.Proofs.Ytmfjalnlfcbdlaa
open Go.ChangeShapes Go.WideShapes Go.ChangeAt Go.RowKit
set_option linter.unusedVariables false

set_option maxRecDepth 100000 in
set_option maxHeartbeats 4000000 in
theorem poolDoes_walk (z : Int) (hz : -9223372036854775808 ≤ z ∧ z ≤ 9223372036854775807) (a : Option Addr) (len cap : Nat) (os : List OpV) (w : World) (ho : Ops w a len os) :
    Calls Try.prog 6 #[.int .i64 z, .slice a len cap] w fun e w' => e = .returned (.bool true) ∧ Below w.heap.size w w' := by
  have HO : Hid (Ops w a len os) := ho
  have hl1 := ho.2.1
  clear ho
  by_cases hb : 200 < len
  · go_enter Try.func6, Try.ntmps6
    go_wp2_with fail
    refine (known_any _).mono ?_
    rintro e u2 ⟨rfl, b2⟩
    go_wp2_with fail
    go_ret
    exact ⟨rfl, b2⟩
  have hb2 : ¬ (200 : Int) < len := by omega
  by_cases hr : z < 1 ∨ 200 < z
  · have HZ : Hid (z < 1 ∨ 200 < z) := hr
    clear hr
    go_enter Try.func6, Try.ntmps6
    go_wp2_with fail
    refine (known_any _).mono ?_
    rintro e u1 ⟨rfl, b1⟩
    go_wp2_with fail
    refine (new_bad z hz HZ.out _).mono ?_
    rintro e u2 ⟨rfl, rfl⟩
    go_wp2_with fail
    refine (rnew_bad z hz HZ.out _).mono ?_
    rintro e u3 ⟨rfl, rfl⟩
    go_wp2_with fail
    go_ret
    exact ⟨rfl, b1⟩
  obtain ⟨n, rfl⟩ := Int.eq_ofNat_of_zero_le (a := z) (by omega)
  have hn1 : 1 ≤ n := by omega
  have hn2 : n ≤ 200 := by omega
  clear hr hz
  go_enter Try.func6, Try.ntmps6
  go_wp2_with fail
  refine (known_any _).mono ?_
  rintro e u1 ⟨rfl, b1⟩
  have HB1 : Hid (Below w.heap.size w u1) := b1
  clear b1
  go_wp2_with fail
  refine (new_good n ⟨hn1, hn2⟩ _).mono ?_
  rintro e u2 ⟨p, F, rfl, hP, b2, hF⟩
  have HP : Hid (PoolAt u2 F p n (none_ n) (down n) ∧ Below u1.heap.size u1 u2 ∧ ∀ k, F k → u1.heap.size ≤ k) := ⟨hP, b2, hF⟩
  clear hP b2 hF
  go_wp2_with fail
  refine (rnew_good n ⟨hn1, hn2⟩ _).mono ?_
  rintro e u3 ⟨q, G, rfl, hR, b3, hG⟩
  have HB : Hid (Both w u3 p q n (none_ n) (down n) (none_ n) (down n)) := by
    obtain ⟨hP, b2, hF⟩ := HP.out
    have b1 := HB1.out
    exact ⟨F, G, hP.below b3, hR, fun k hk hg => by have := hP.foot k hk; have := hG k hg; omega, fun k hk => Nat.le_trans b1.size (hF k hk), fun k hk => Nat.le_trans (Nat.le_trans b1.size b2.size) (hG k hk), later (later b1 b2) b3⟩
  clear hR b3 hG HP HB1
  go_wp2_with fail
  go_loopw [7, 8, 9, 10, 11, 12, 13, 14, 15, 16] (fun i _ _ _ _ _ _ _ _ _ wr => ∃ (k : Nat) (S : List (Option Pk)) (E : List Nat), k ≤ len ∧ i = .int .i64 k ∧ Both w wr p q n S E S E) (fun i _ _ _ _ _ _ _ _ _ _ => len - (intOf i).toNat)
  case atStart => exact ⟨0, _, _, Nat.zero_le _, rfl, HB.out⟩
  case round =>
    obtain ⟨k, S, E, hk, rfl, hm⟩ := hrel
    have HM : Hid (Both w wr p q n S E S E) := hm
    clear hm HB
    by_cases hkl : k < len
    · obtain ⟨b, off, v, rfl, hat⟩ := HO.out.at hkl
      have HAt : Hid (OpAt w b (off + k * 6) v) := hat
      obtain ⟨q1, ⟨q2, q3, q4, q5⟩, q6, hk8, hi1, hi2⟩ := hat.below HM.out.below
      obtain ⟨vk, ⟨vs, vd, vl, vb⟩, vi⟩ := v
      simp only at q1 q2 q3 q4 q5 q6 hk8 hi1 hi2
      have HI : Hid (∀ u, Below w.heap.size w u → u.cell? ⟨b, off + k * 6 + 5, none⟩ = some (.int .i64 vi)) := fun u hu => (HAt.out.below hu).2.2.1
      clear hat
      have hkl2 : (k : Int) < len := by omega
      by_cases h2 : vk % 4 = 2
      · have h2i : (vk : Int) % 4 = 2 := by omega
        obtain ⟨c, hc⟩ : ∃ c, (look S vi).isSome = c := ⟨_, rfl⟩
        have HC : Hid ((look S vi).isSome = c) := hc
        clear hc q2 q3 q4 q5
        go_wp2_with fail
        go_region_held3 (fun w' => w'.cell? ⟨b, off + k * 6 + 5, none⟩ = some (.int .i64 vi)) (go_keep)
          (first
            | (go_at_call 13; refine (b_drop HQ.out ⟨hi1, hi2⟩ c HC.out).mono ?_; rintro e y' ⟨rfl, hl⟩; have HE : Hid (Both w y' p q n (dS S vi) (dE S E vi) (dS S vi) (dE S E vi)) := hl; have hq' := HI.out y' hl.below; clear hl HQ)
            | (go_at_call 13; refine (b_drop (HM.out.on (drewN_below _ 1)) ⟨hi1, hi2⟩ c HC.out).mono ?_; rintro e y ⟨rfl, hl⟩; have HP : Hid (Both w y p q n (dS S vi) (dE S E vi) S E) := hl; have hq' := HI.out y hl.below; clear hl)
            | (go_at_call 16; refine (d_drop HP.out ⟨hi1, hi2⟩ c HC.out).mono ?_; rintro e y' ⟨rfl, hl⟩; have HE : Hid (Both w y' p q n (dS S vi) (dE S E vi) (dS S vi) (dE S E vi)) := hl; have hq' := HI.out y' hl.below; clear hl HP)
            | (go_at_call 16; refine (d_drop (HM.out.on (drewN_below _ 1)) ⟨hi1, hi2⟩ c HC.out).mono ?_; rintro e y ⟨rfl, hl⟩; have HQ : Hid (Both w y p q n S E (dS S vi) (dE S E vi)) := hl; have hq' := HI.out y hl.below; clear hl))
        all_goals
          go_wp2_with fail
          refine (b_free HE.out _ rfl).mono ?_
          rintro e u4 ⟨rfl, rfl⟩
          go_wp2_with fail
          refine (d_free HE.out _ rfl).mono ?_
          rintro e u4 ⟨rfl, rfl⟩
          go_wp2_with fail
          go_roundw
          case rel => first | exact ⟨k + 1, _, _, by omega, by go_num, HE.out⟩ | ((repeat apply Exists.intro); exact ⟨⟨k + 1, _, _, by omega, by go_num, HE.out⟩, rfl⟩)
          case measure => simp [intOf]; omega
      · have h2i : ((vk : Int) % 4 == 2) = false := by simp; omega
        by_cases h3 : vk % 4 = 3
        · have h3i : (vk : Int) % 4 = 3 := by omega
          obtain ⟨c, hc⟩ : ∃ c, (look S (vi)).isSome = c := ⟨_, rfl⟩
          have HC : Hid ((look S (vi)).isSome = c) := hc
          obtain ⟨⟨xs, xd, xl, xb⟩, hx⟩ : ∃ x, (look S (vi)).getD zpk = x := ⟨_, rfl⟩
          have HX : Hid ((look S (vi)).getD zpk = ⟨xs, xd, xl, xb⟩) := hx
          clear hc hx
          go_wp2_with fail
          refine (b_get HM.out ⟨hi1, hi2⟩ c HC.out xs xd xl xb HX.out).mono ?_
          rintro e u4 ⟨rfl, b4⟩
          have HM4 : Hid (Both w (u4.alloc (.cells #[.int .i64 xs, .int .i64 xd, .int .i64 xl, .int .u32 xb] 27)) p q n S E S E) := (HM.out.on b4).on (fresh _ _)
          have hA0 : (u4.alloc (.cells #[.int .i64 xs, .int .i64 xd, .int .i64 xl, .int .u32 xb] 27)).cell? ⟨u4.heap.size, 0, none⟩ = some (.int .i64 xs) := by simp
          have hA1 : (u4.alloc (.cells #[.int .i64 xs, .int .i64 xd, .int .i64 xl, .int .u32 xb] 27)).cell? ⟨u4.heap.size, 1, none⟩ = some (.int .i64 xd) := by simp
          have hA2 : (u4.alloc (.cells #[.int .i64 xs, .int .i64 xd, .int .i64 xl, .int .u32 xb] 27)).cell? ⟨u4.heap.size, 2, none⟩ = some (.int .i64 xl) := by simp
          have hA3 : (u4.alloc (.cells #[.int .i64 xs, .int .i64 xd, .int .i64 xl, .int .u32 xb] 27)).cell? ⟨u4.heap.size, 3, none⟩ = some (.int .u32 xb) := by simp
          have HA : Hid (PkAt (u4.alloc (.cells #[.int .i64 xs, .int .i64 xd, .int .i64 xl, .int .u32 xb] 27)) u4.heap.size 0 ⟨xs, xd, xl, xb⟩) := ⟨hA0, hA1, hA2, hA3⟩
          have hq4 := HI.out _ HM4.out.below
          clear b4 hA0 hA1 hA2 hA3 HM
          go_wp2_with fail
          generalize u4.alloc (.cells #[.int .i64 xs, .int .i64 xd, .int .i64 xl, .int .u32 xb] 27) = W4 at HM4 HA hq4 ⊢
          generalize u4.heap.size = bA at HA ⊢
          refine (d_get HM4.out ⟨hi1, hi2⟩ c HC.out xs xd xl xb HX.out).mono ?_
          rintro e u5 ⟨rfl, b5⟩
          have b6 : Below W4.heap.size W4 (u5.alloc (.cells #[.int .i64 xs, .int .i64 xd, .int .i64 xl, .int .u32 xb] 27)) := later b5 (fresh _ _)
          have HM5 : Hid (Both w (u5.alloc (.cells #[.int .i64 xs, .int .i64 xd, .int .i64 xl, .int .u32 xb] 27)) p q n S E S E) := HM4.out.on b6
          obtain ⟨hA0, hA1, hA2, hA3⟩ := HA.out.below b6
          simp only at hA0 hA1 hA2 hA3
          clear b5 b6 HM4 HA
          go_wp2_with fail
          refine (b_free HM5.out _ rfl).mono ?_
          rintro e u6 ⟨rfl, hu6⟩
          have HM6 : Hid (Both w u6 p q n S E S E) := by rw [hu6]; exact HM5.out
          clear hu6 HM5 hA0 hA1 hA2 hA3
          go_wp2_with fail
          refine (d_free HM6.out _ rfl).mono ?_
          rintro e u6 ⟨rfl, rfl⟩
          go_wp2_with fail
          go_roundw
          case rel => first | exact ⟨k + 1, _, _, by omega, by go_num, HM6.out⟩ | ((repeat apply Exists.intro); exact ⟨⟨k + 1, _, _, by omega, by go_num, HM6.out⟩, rfl⟩)
          case measure => simp [intOf]; omega
        · have h3i : ((vk : Int) % 4 == 3) = false := by simp; omega
          obtain ⟨K, hK⟩ : ∃ K, E.getLastD 0 = K := ⟨_, rfl⟩
          have HK : Hid (E.getLastD 0 = K) := hK
          obtain ⟨c, hc⟩ : ∃ c, (!E.isEmpty) = c := ⟨_, rfl⟩
          have HC : Hid ((!E.isEmpty) = c) := hc
          have HQ : Hid (∀ u, Below w.heap.size w u → PkAt u b (off + k * 6 + 1) ⟨vs, vd, vl, vb⟩) := fun u hu => (HAt.out.below hu).2.1
          clear hK hc
          go_wp2_with fail
          refine (b_put HM.out vs vd vl vb K HK.out c HC.out).mono ?_
          rintro e u4 ⟨rfl, m4⟩
          have HM4 : Hid (Both w u4 p q n (pS S E ⟨vs, vd, vl, vb⟩) E.dropLast S E) := m4
          clear q1 q2 q3 q4 q5 q6 HM m4
          obtain ⟨q2, q3, q4, q5⟩ := HQ.out u4 HM4.out.below
          simp only at q2 q3 q4 q5
          go_wp2_with fail
          refine (d_put HM4.out vs vd vl vb K HK.out c HC.out).mono ?_
          rintro e u5 ⟨rfl, m5⟩
          have HM5 : Hid (Both w u5 p q n (pS S E ⟨vs, vd, vl, vb⟩) E.dropLast (pS S E ⟨vs, vd, vl, vb⟩) E.dropLast) := m5
          clear q2 q3 q4 q5 HM4 m5
          go_wp2_with fail
          refine (b_free HM5.out _ rfl).mono ?_
          rintro e u6 ⟨rfl, rfl⟩
          go_wp2_with fail
          refine (d_free HM5.out _ rfl).mono ?_
          rintro e u6 ⟨rfl, rfl⟩
          go_wp2_with fail
          go_roundw
          case rel => first | exact ⟨k + 1, _, _, by omega, by go_num, HM5.out⟩ | ((repeat apply Exists.intro); exact ⟨⟨k + 1, _, _, by omega, by go_num, HM5.out⟩, rfl⟩)
          case measure => simp [intOf]; omega
    · go_wp2_with fail
      go_loopw [17, 18, 19, 20, 21] (fun i _ _ _ _ v => ∃ j : Nat, j ≤ n + 2 ∧ i = .int .i64 ((j : Int) - 1) ∧ Both w v p q n S E S E) (fun i _ _ _ _ _ => n + 2 - (intOf i + 1).toNat)
      case atStart => exact ⟨0, by omega, by go_num, HM.out⟩
      case round =>
        obtain ⟨j, hj, rfl, hm⟩ := hrel
        have HM1 : Hid (Both w wr p q n S E S E) := hm
        clear hm HM
        by_cases hjn : j ≤ n + 1
        · obtain ⟨t, ht⟩ : ∃ t : Int, (j : Int) - 1 = t := ⟨_, rfl⟩
          have ht1 : -1 ≤ t := by omega
          have ht2 : t ≤ n := by omega
          have htj : Hid ((j : Int) - 1 = t) := ht
          rw [ht]
          clear ht
          obtain ⟨c, hc⟩ : ∃ c, (look S (t)).isSome = c := ⟨_, rfl⟩
          have HC : Hid ((look S (t)).isSome = c) := hc
          obtain ⟨⟨xs, xd, xl, xb⟩, hx⟩ : ∃ x, (look S (t)).getD zpk = x := ⟨_, rfl⟩
          have HX : Hid ((look S (t)).getD zpk = ⟨xs, xd, xl, xb⟩) := hx
          clear hc hx
          go_wp2_with fail
          refine (b_get HM1.out (by omega) c HC.out xs xd xl xb HX.out).mono ?_
          rintro e u4 ⟨rfl, b4⟩
          have HM4 : Hid (Both w (u4.alloc (.cells #[.int .i64 xs, .int .i64 xd, .int .i64 xl, .int .u32 xb] 27)) p q n S E S E) := (HM1.out.on b4).on (fresh _ _)
          have hA0 : (u4.alloc (.cells #[.int .i64 xs, .int .i64 xd, .int .i64 xl, .int .u32 xb] 27)).cell? ⟨u4.heap.size, 0, none⟩ = some (.int .i64 xs) := by simp
          have hA1 : (u4.alloc (.cells #[.int .i64 xs, .int .i64 xd, .int .i64 xl, .int .u32 xb] 27)).cell? ⟨u4.heap.size, 1, none⟩ = some (.int .i64 xd) := by simp
          have hA2 : (u4.alloc (.cells #[.int .i64 xs, .int .i64 xd, .int .i64 xl, .int .u32 xb] 27)).cell? ⟨u4.heap.size, 2, none⟩ = some (.int .i64 xl) := by simp
          have hA3 : (u4.alloc (.cells #[.int .i64 xs, .int .i64 xd, .int .i64 xl, .int .u32 xb] 27)).cell? ⟨u4.heap.size, 3, none⟩ = some (.int .u32 xb) := by simp
          have HA : Hid (PkAt (u4.alloc (.cells #[.int .i64 xs, .int .i64 xd, .int .i64 xl, .int .u32 xb] 27)) u4.heap.size 0 ⟨xs, xd, xl, xb⟩) := ⟨hA0, hA1, hA2, hA3⟩
          clear b4 hA0 hA1 hA2 hA3 HM1
          go_wp2_with fail
          generalize u4.alloc (.cells #[.int .i64 xs, .int .i64 xd, .int .i64 xl, .int .u32 xb] 27) = W4 at HM4 HA ⊢
          generalize u4.heap.size = bA at HA ⊢
          refine (d_get HM4.out (by omega) c HC.out xs xd xl xb HX.out).mono ?_
          rintro e u5 ⟨rfl, b5⟩
          have b6 : Below W4.heap.size W4 (u5.alloc (.cells #[.int .i64 xs, .int .i64 xd, .int .i64 xl, .int .u32 xb] 27)) := later b5 (fresh _ _)
          have HM5 : Hid (Both w (u5.alloc (.cells #[.int .i64 xs, .int .i64 xd, .int .i64 xl, .int .u32 xb] 27)) p q n S E S E) := HM4.out.on b6
          obtain ⟨hA0, hA1, hA2, hA3⟩ := HA.out.below b6
          simp only at hA0 hA1 hA2 hA3
          clear b5 b6 HM4 HA
          go_wp2_with fail

          go_roundw
          case rel => first | exact ⟨j + 1, by omega, by have := htj.out; rw [← this]; go_num, HM5.out⟩ | ((repeat apply Exists.intro); exact ⟨⟨j + 1, by omega, by have := htj.out; rw [← this]; go_num, HM5.out⟩, rfl⟩)
          case measure => have := htj.out; simp [intOf]; omega
        · have hjn2 : ¬ (j : Int) - 1 ≤ n := by omega
          go_wp2_with fail
          go_ret
          exact ⟨rfl, HM1.out.below⟩
theorem poolDoes_any (_ : True) (w : World) (a0 : Int) (w0 : (Lit.int .i64 a0).wf = true) (a : Option Addr) (len cap : Nat) (os : List OpV) (ho : Ops w a len os) :
    Calls Try.prog 6 #[.int .i64 a0, .slice a len cap] w fun e w' => e = .returned (.bool true) ∧ Below w.heap.size w w' :=
  poolDoes_walk a0 (bounds_i64 w0) a len cap os w ho
end Go.Proofs.Ytmfjalnlfcbdlaa
