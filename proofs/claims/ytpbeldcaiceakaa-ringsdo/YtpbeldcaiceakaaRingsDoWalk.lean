/-
  The law RingsDo of package shunterlaw08, over numbers and a slice of calls that are handed in. Conditions: that the numbers are of their kinds, and the slice leads to calls.
-/
import Derived.Test.YtpbeldcaiceakaaRingDoes
namespace Go.Proofs.Ytpbeldcaiceakaa
open Go.ChangeShapes Go.WideShapes Go.ChangeAt Go.RowKit
set_option linter.unusedVariables false

theorem OpIn.three {w : World} {b k : Nat} {i o l : Int} {nr : Bool} {vx : Pk} (h : OpIn w b ⟨k, i, o, l, nr, vx⟩) : w.cell? ⟨b, 1, none⟩ = some (.int .i64 i) ∧ w.cell? ⟨b, 2, none⟩ = some (.int .i64 o) ∧ w.cell? ⟨b, 3, none⟩ = some (.int .i64 l) :=
  ⟨h.2.1, h.2.2.1, h.2.2.2.1⟩
theorem d_new {w0 w : World} (P L n : Nat) (hP : 1 ≤ P ∧ P ≤ 16) (hL : 1 ≤ L ∧ L ≤ 3) (hn : 1 ≤ n ∧ n ≤ 200) {F : Nat → Prop} {p : Nat} (hb : Below w0.heap.size w0 w) (hR : RAt w F p P L n 0 0 (fun _ => [])) (hF : ∀ k, F k → w0.heap.size ≤ k) :
    Calls Try.prog 15 #[.int .i64 P, .int .i64 L, .int .i64 n] w fun e w' => ∃ r, e = .returned (.pointer (some ⟨r, 0, none⟩)) ∧ Duo (fun _ => False) w0 w' p r P L n 0 0 (fun _ => []) [] :=
  (refNew_good P L n hP hL hn w).mono fun e w' ⟨r, H, he, hRef, hB, hH⟩ => ⟨r, he, F, H, hR.below hB, hRef, fun k hk => ⟨hF k hk, fun e => e⟩, fun k hk => ⟨Nat.le_trans hb.size (hH k hk), fun e => e⟩, fun k hk e => by have := hR.foot k hk; have := hH k e; omega, later hb hB⟩
set_option maxHeartbeats 8000000 in
set_option maxRecDepth 100000 in
theorem ringsDo_walk (a0 a1 a2 : Int) (h0 : I64 a0) (h1 : I64 a1) (h2 : I64 a2) (a : Option Addr) (len cap : Nat) (os : List OpV) (w : World) (ho : Ops w a len os) :
    Calls Try.prog 5 #[.int .i64 a0, .int .i64 a1, .int .i64 a2, .slice a len cap] w fun e w' => e = .returned (.bool true) ∧ Below w.heap.size w w' := by
  have HO : Hid (Ops w a len os) := ho
  have hl1 := ho.2.1
  clear ho
  by_cases hb : 100 < len
  · go_enter Try.func5, Try.ntmps5
    go_wp2_with fail
    refine (known_any _).mono ?_
    rintro e u1 ⟨rfl, b1⟩
    go_wp2_with fail
    go_ret
    exact ⟨rfl, b1⟩
  · have hb2 : ¬ (100 : Int) < len := by omega
    by_cases hg : 1 ≤ a0 ∧ a0 ≤ 16 ∧ 1 ≤ a1 ∧ a1 ≤ 3 ∧ 1 ≤ a2 ∧ a2 ≤ 200
    · obtain ⟨P, rfl⟩ := Int.eq_ofNat_of_zero_le (a := a0) (by omega)
      obtain ⟨L, rfl⟩ := Int.eq_ofNat_of_zero_le (a := a1) (by omega)
      obtain ⟨n, rfl⟩ := Int.eq_ofNat_of_zero_le (a := a2) (by omega)
      obtain ⟨p1, p2, l1, l2, n1, n2⟩ := hg
      clear h0 h1 h2
      go_enter Try.func5, Try.ntmps5
      go_wp2_with fail
      refine (known_any _).mono ?_
      rintro e u0 ⟨rfl, b0⟩
      go_wp2_with fail
      refine (r_new_good P L n (by omega) (by omega) (by omega) u0).mono ?_
      rintro e u1 ⟨p, F, rfl, hR, hB, hF⟩
      have H1 : Hid (RAt u1 F p P L n 0 0 (fun _ => []) ∧ Below w.heap.size w u1 ∧ ∀ k, F k → w.heap.size ≤ k) := ⟨hR, later b0 hB, fun k hk => Nat.le_trans b0.size (hF k hk)⟩
      clear hR hB hF b0
      go_wp2_with fail
      refine (d_new P L n (by omega) (by omega) (by omega) H1.out.2.1 H1.out.1 H1.out.2.2).mono ?_
      rintro e u2 ⟨r, rfl, hD⟩
      have H2 : Hid (Duo (fun _ => False) w u2 p r P L n 0 0 (fun _ => []) []) := hD
      clear hD H1
      go_wp2_with fail
      go_loopw [11, 12, 13] (fun x _ _ wr => ∃ (k : Nat) (ls : List Ent), k ≤ len ∧ x = .int .i64 k ∧ Duo (fun _ => False) w wr p r P L n ls.length k (qof ls) ls) (fun x _ _ _ => len - (intOf x).toNat)
      case atStart => exact ⟨0, [], Nat.zero_le _, rfl, H2.out⟩
      case round =>
        obtain ⟨k, ls, hk, rfl, hm⟩ := hrel
        have HM : Hid (Duo (fun _ => False) w wr p r P L n ls.length k (qof ls) ls) := hm
        clear hm H2
        by_cases hkl : k < len
        · obtain ⟨b, off, v, rfl, hat⟩ := HO.out.at hkl
          obtain ⟨q1, q2, q3, q4, q5, ⟨q6, q7, q8, q9⟩, hok⟩ := hat.below HM.out.below
          obtain ⟨vk, vi, vo, vl, vn, vx⟩ := v
          simp only at q1 q2 q3 q4 q5 q6 q7 q8 q9
          have HK : Hid (OpV.ok ⟨vk, vi, vo, vl, vn, vx⟩) := hok
          have hvk : vk < 256 := hok.1
          clear hat hok
          have hkl2 : (k : Int) < len := by omega
          go_wp2_with fail
          refine (near_any ⟨vk, vi, vo, vl, vn, vx⟩ HK.out _).mono ?_
          rintro e u3 ⟨rfl, b3⟩
          obtain ⟨i', hi'⟩ : ∃ i', nv vn 3 vi = i' := ⟨_, rfl⟩
          obtain ⟨o', ho'⟩ : ∃ o', nv vn 3 vo = o' := ⟨_, rfl⟩
          obtain ⟨l', hl'⟩ : ∃ l', nv vn 2 vl = l' := ⟨_, rfl⟩
          have HW : Hid (Wf (i', o', l')) := by
            rw [← hi', ← ho', ← hl']
            exact near_wf HK.out
          simp only [hi', ho', hl']
          obtain ⟨Z, hZ⟩ : ∃ Z, Z = u3.alloc (.cells #[.int .u8 vk, .int .i64 i', .int .i64 o', .int .i64 l', .bool vn, .int .i64 vx.s, .int .i64 vx.d, .int .i64 vx.l, .int .u32 vx.b] 35) := ⟨_, rfl⟩
          have HZ : Hid (Duo (fun j => j = u3.heap.size) w Z p r P L n ls.length k (qof ls) ls ∧ OpIn Z u3.heap.size ⟨vk, i', o', l', vn, vx⟩ ∧ u3.heap.size < Z.heap.size) := by
            rw [hZ]
            exact ⟨((HM.out.on b3).wider (G' := fun j => j = u3.heap.size) (fun j e => .inr (by omega))).on (fresh _ _), OpIn.new u3 ⟨vk, i', o', l', vn, vx⟩, by simp⟩
          obtain ⟨bx, hbx⟩ : ∃ bx, u3.heap.size = bx := ⟨_, rfl⟩
          clear b3 hi' ho' hl' q1 q2 q3 q4 q5 q6 q7 q8 q9
          go_wp2_with fail
          rw [← hZ]
          refine (does_any HZ.out.1 (fun j e => by rw [e]; exact HZ.out.2.2) (by omega) vk i' o' l' vn vx hvk HW.out).mono ?_
          rintro e u4 ⟨rfl, ls', m4, s4⟩
          have H4 : Hid (Duo (fun j => j = u3.heap.size) w u4 p r P L n ls'.length (k + 1) (qof ls') ls' ∧ OpIn u4 u3.heap.size ⟨vk, i', o', l', vn, vx⟩) := ⟨m4, HZ.out.2.1.sans s4 (fun e => e rfl)⟩
          obtain ⟨c1, c2, c3⟩ := H4.out.2.three
          obtain ⟨xs, hxs⟩ : ∃ xs, qof ls' (i', o', l') = xs := ⟨_, rfl⟩
          obtain ⟨m, hm⟩ : ∃ m, xs.length = m := ⟨_, rfl⟩
          have HX : Hid (qof ls' (i', o', l') = xs ∧ (qof ls' (i', o', l')).length = m ∧ xs.length ≤ 1000) := ⟨hxs, by rw [hxs, hm], by have := H4.out.1.len_le (i', o', l'); rw [hxs] at this; omega⟩
          rw [hbx] at H4 c1 c2 c3
          clear m4 s4 HZ hZ HM hbx hxs hm
          go_wp2_with fail
          go_region_held3 (fun w' => w'.cell? ⟨bx, 1, none⟩ = some (.int .i64 i') ∧ w'.cell? ⟨bx, 2, none⟩ = some (.int .i64 o') ∧ w'.cell? ⟨bx, 3, none⟩ = some (.int .i64 l')) (first | exact (H4.out.2.below B7.out).three | exact (H4.out.2.below B6.out).three | exact (H4.out.2.below B5.out).three | exact (H4.out.2.below B4.out).three | exact (H4.out.2.below (drewN_below u4 1)).three)
            (first | (go_at_call 11; refine (d_len (H4.out.1.on (drewN_below u4 1)) i' o' l' HW.out m HX.out.2.1).mono ?_; rintro e uL ⟨rfl, rfl⟩) | (go_at_call 17; refine (d_refLen (H4.out.1.on (drewN_below u4 1)) i' o' l' m HX.out.2.1).mono ?_; rintro e u5 ⟨rfl, b5⟩; have B4 : Hid (Below u4.heap.size u4 u5) := later (drewN_below u4 1) b5; clear b5) | (go_at_call 19; refine (d_all (H4.out.1.on B4.out) (by omega) i' o' l' HW.out xs HX.out.1).mono ?_; rintro e u6 ⟨v1, rfl, pr1, b6⟩; have B5 : Hid (Below u4.heap.size u4 u6) := later B4.out b6; have P1 : Hid (PRow u6 u5.heap.size v1 xs) := pr1; clear b6 pr1) | (go_at_call 20; refine (d_refAll (H4.out.1.on B5.out) i' o' l' xs HX.out.1).mono ?_; rintro e u7 ⟨v2, rfl, pr2, b7⟩; have B6 : Hid (Below u4.heap.size u4 u7) := later B5.out b7; have P2 : Hid (PRow u7 u5.heap.size v1 xs ∧ PRow u7 u6.heap.size v2 xs) := ⟨P1.out.below b7, pr2⟩; clear b7 pr2) | (go_at_call 18; refine (same_any u7 _ _ v1 v2 xs P2.out.1 P2.out.2 HX.out.2.2).mono ?_; rintro e u8 ⟨rfl, b8⟩; have B7 : Hid (Below u4.heap.size u4 u8) := later B6.out b8; clear b8))
          have H8 : Hid (Duo (fun _ => False) w u8 p r P L n ls'.length (k + 1) (qof ls') ls') := (H4.out.1.on B7.out).wider (fun j e => e.elim)
          go_wp2_with fail
          go_roundw
          case rel => exact ⟨k + 1, ls', by omega, by go_num, H8.out⟩
          case measure => simp [intOf]; omega
        · obtain rfl : k = len := by omega
          have HN : Hid (k ≤ 100) := by show k ≤ 100; omega
          go_wp2_with fail
          go_loopw [14, 15] (fun x _ wq => ∃ z : Int, -1 ≤ z ∧ z ≤ 4 ∧ x = .int .i64 z ∧ Duo (fun _ => False) w wq p r P L n ls.length k (qof ls) ls) (fun x _ _ => (4 - intOf x).toNat)
          case atStart => exact ⟨-1, by omega, by omega, rfl, HM.out⟩
          case round =>
            obtain ⟨z, hz1, hz2, rfl, hm⟩ := hrel
            have HZ : Hid (Duo (fun _ => False) w wr p r P L n ls.length k (qof ls) ls) := hm
            clear hm HM
            by_cases hz4 : z < 4
            · go_wp2_with fail
              go_loopw [15] (fun y wq => ∃ j : Nat, j ≤ 4 ∧ y = .int .i64 j ∧ Duo (fun _ => False) w wq p r P L n ls.length k (qof ls) ls) (fun y _ => 4 - (intOf y).toNat)
              case atStart => exact ⟨0, by omega, rfl, HZ.out⟩
              case round =>
                obtain ⟨j, hj, rfl, hm⟩ := hrel
                have HJ : Hid (Duo (fun _ => False) w wr p r P L n ls.length k (qof ls) ls) := hm
                clear hm HZ
                by_cases hj4 : j < 4
                · have hj4' : (j : Int) < 4 := by omega
                  obtain ⟨xs, hxs⟩ : ∃ xs, qof ls (z, (j : Int), 0) = xs := ⟨_, rfl⟩
                  have HX : Hid (qof ls (z, (j : Int), 0) = xs ∧ xs.length ≤ 1000 ∧ Wf (z, (j : Int), 0)) := ⟨hxs, by have := HJ.out.len_le (z, (j : Int), 0); rw [hxs] at this; have := HN.out; omega, wfSmall (by omega)⟩
                  clear hxs
                  go_wp2_with fail
                  refine (d_all HJ.out (by have := HN.out; omega) z j 0 HX.out.2.2 xs HX.out.1).mono ?_
                  rintro e u5 ⟨v1, rfl, pr1, b5⟩
                  have H5 : Hid (Duo (fun _ => False) w u5 p r P L n ls.length k (qof ls) ls ∧ PRow u5 wr.heap.size v1 xs) := ⟨HJ.out.on b5, pr1⟩
                  clear pr1 b5 HJ
                  go_wp2_with fail
                  refine (d_refAll H5.out.1 z j 0 xs HX.out.1).mono ?_
                  rintro e u6 ⟨v2, rfl, pr2, b6⟩
                  have H6 : Hid (Duo (fun _ => False) w u6 p r P L n ls.length k (qof ls) ls ∧ PRow u6 wr.heap.size v1 xs ∧ PRow u6 u5.heap.size v2 xs) := ⟨H5.out.1.on b6, H5.out.2.below b6, pr2⟩
                  clear pr2 b6 H5
                  go_wp2_with fail
                  refine (same_any u6 _ _ v1 v2 xs H6.out.2.1 H6.out.2.2 HX.out.2.1).mono ?_
                  rintro e u7 ⟨rfl, b7⟩
                  have H7 : Hid (Duo (fun _ => False) w u7 p r P L n ls.length k (qof ls) ls) := H6.out.1.on b7
                  clear b7 H6
                  go_wp2_with fail
                  go_roundw
                  case rel => exact ⟨j + 1, by omega, by go_num, H7.out⟩
                  case measure => simp [intOf]; omega
                · obtain rfl : j = 4 := by omega
                  go_wp2_with fail
                  go_roundw
                  case rel => exact ⟨z + 1, by omega, by omega, by go_num, HJ.out⟩
                  case measure => simp [intOf]; omega
            · go_wp2_with fail
              go_ret
              exact ⟨rfl, HZ.out.below⟩
    · have HB : Hid (¬ (1 ≤ a0 ∧ a0 ≤ 16 ∧ 1 ≤ a1 ∧ a1 ≤ 3 ∧ 1 ≤ a2 ∧ a2 ≤ 200)) := hg
      clear hg
      go_enter Try.func5, Try.ntmps5
      go_wp2_with fail
      refine (known_any _).mono ?_
      rintro e u0 ⟨rfl, b0⟩
      go_wp2_with fail
      refine (r_new_bad a0 a1 a2 h0 h1 h2 HB.out _).mono ?_
      rintro e u1 ⟨rfl, b1⟩
      go_wp2_with fail
      refine (refNew_bad a0 a1 a2 HB.out _).mono ?_
      rintro e u2 ⟨rfl, rfl⟩
      go_wp2_with fail
      go_ret
      exact ⟨rfl, later b0 b1⟩
theorem ringsDo_any (_ : True) (w : World) (a0 : Int) (w0 : (Lit.int .i64 a0).wf = true) (a1 : Int) (w1 : (Lit.int .i64 a1).wf = true) (a2 : Int) (w2 : (Lit.int .i64 a2).wf = true) (a : Option Addr) (len cap : Nat) (os : List OpV) (ho : Ops w a len os) :
    Calls Try.prog 5 #[.int .i64 a0, .int .i64 a1, .int .i64 a2, .slice a len cap] w fun e w' => e = .returned (.bool true) ∧ Below w.heap.size w w' :=
  ringsDo_walk a0 a1 a2 (bounds_i64 w0) (bounds_i64 w1) (bounds_i64 w2) a len cap os w ho
end Go.Proofs.Ytpbeldcaiceakaa
