/-
  The law LinkDoes of package shunterlaw04, out of what package link comes to. Conditions: that package link comes to it (LinkSpec), and the slice leads to calls.
-/
import Derived.Test.YtjelfenkbngfiaaLinkSteps4
namespace Go.Proofs.Ytjelfenkbngfiaa
open Go.ChangeShapes Go.WideShapes Go.ChangeAt Go.RowKit
set_option linter.unusedVariables false
variable {L : World → (Nat → Prop) → Nat → Nat → List (List Nat) → Prop}

set_option maxRecDepth 100000 in
set_option maxHeartbeats 16000000 in
theorem linkDoes_walk (S : LinkSpec L) (z : Int) (hz : -9223372036854775808 ≤ z ∧ z ≤ 9223372036854775807) (a0 : Option Addr) (len0 cap0 : Nat) (os : List OpV) (w : World) (ho : Ops w a0 len0 os) :
    Calls Try.prog 6 #[.int .i64 z, .slice a0 len0 cap0] w fun e w' => e = .returned (.bool true) ∧ Below w.heap.size w w' := by
  have HO : Hid (Ops w a0 len0 os) := ho
  have hl1 := ho.2.1
  clear ho
  cases hh : tooMuch os with
  | true =>
    have HH : Hid (tooMuch os = true) := hh
    clear hh
    go_enter Try.func6, Try.ntmps6
    go_wp2_with fail
    refine (heavy_is a0 len0 cap0 os _ HO.out true HH.out).mono ?_
    rintro e u1 ⟨rfl, rfl⟩
    go_wp2_with fail
    refine (known_any S _).mono ?_
    rintro e u2 ⟨rfl, b2⟩
    go_wp2_with fail
    go_ret
    exact ⟨rfl, b2⟩
  | false =>
    have HH : Hid (tooMuch os = false) := hh
    have hlen : len0 ≤ 100 ∧ bulk os ≤ 3000 := by
      unfold tooMuch at hh
      have := of_decide_eq_false hh
      rw [HO.out.1] at this
      omega
    have HBk : Hid (bulk os ≤ 3000) := hlen.2
    have hl100 := hlen.1
    clear hh hlen
    by_cases hr : z < 1 ∨ 64 < z
    · have HZ : Hid (z < 1 ∨ 64 < z) := hr
      have hd : (decide (z < 1) || decide (64 < z)) = true := by simpa using hr
      clear hr
      go_enter Try.func6, Try.ntmps6
      go_wp2_with fail
      refine (heavy_is a0 len0 cap0 os _ HO.out false HH.out).mono ?_
      rintro e u1 ⟨rfl, rfl⟩
      go_wp2_with fail
      refine (known_any S _).mono ?_
      rintro e u2 ⟨rfl, b2⟩
      go_wp2_with fail
      refine (S.new_bad z _ hz HZ.out).mono ?_
      rintro e u3 ⟨rfl, b3⟩
      go_wp2_with fail
      refine (refNew_bad z hz HZ.out _).mono ?_
      rintro e u4 ⟨rfl, rfl⟩
      go_wp2_with fail
      go_ret
      exact ⟨rfl, later b2 b3⟩
    · obtain ⟨room, rfl⟩ := Int.eq_ofNat_of_zero_le (a := z) (by omega)
      have hr1 : 1 ≤ room := by omega
      have hr2 : room ≤ 64 := by omega
      clear hr hz
      go_enter Try.func6, Try.ntmps6
      go_wp2_with fail
      refine (heavy_is a0 len0 cap0 os _ HO.out false HH.out).mono ?_
      rintro e u1 ⟨rfl, rfl⟩
      go_wp2_with fail
      refine (known_any S _).mono ?_
      rintro e u2 ⟨rfl, b2⟩
      go_wp2_with fail
      refine (S.new_good room _ ⟨hr1, hr2⟩).mono ?_
      rintro e u3 ⟨p, F, rfl, hL3, b3, hF3⟩
      have HL3 : Hid (L u3 F p room []) := hL3
      have HF3 : Hid (∀ k, F k → u1.heap.size ≤ k) := fun k hk => Nat.le_trans b2.size (hF3 k hk)
      have HB3 : Hid (Below u1.heap.size u1 u3) := Go.Proofs.Ytjelfenkbngfiaa.later b2 b3
      clear hL3 hF3 b2 b3
      go_wp2_with fail
      refine (refNew_good room ⟨hr1, hr2⟩ _).mono ?_
      rintro e u4 ⟨rfl, hR4, b4⟩
      have H4 : Hid (Two L u1 u4 p u3.heap.size room) := ⟨[], F, _, [], none, 0, pair_new S HL3.out HF3.out HB3.out hR4 b4, rfl⟩
      clear hR4 b4 HL3 HF3 HB3
      obtain ⟨q, hq⟩ : ∃ q, u3.heap.size = q := ⟨_, rfl⟩
      rw [hq] at H4
      go_wp2_with fail
      clear hq
      go_loopw [7, 8, 9, 10, 11, 12, 13] (fun i _ _ _ _ _ _ wr => ∃ k : Nat, k ≤ len0 ∧ i = .int .i64 k ∧ Two L u1 wr p q room) (fun i _ _ _ _ _ _ _ => len0 - (intOf i).toNat)
      case atStart => exact ⟨0, Nat.zero_le _, rfl, H4.out⟩
      case round =>
        obtain ⟨k, hk, rfl, hm⟩ := hrel
        have HM : Hid (Two L u1 wr p q room) := hm
        clear hm H4
        by_cases hkl : k < len0
        · obtain ⟨b, off, rfl, hat⟩ := HO.out.at hkl
          obtain ⟨v, hv⟩ : ∃ v, os.getD k zop = v := ⟨_, rfl⟩
          have hvl : (os.getD k zop).len ≤ 1000000 := by have := len_le_bulk (os := os) (k := k) (by rw [HO.out.1]; exact hkl); have := HBk.out; omega
          rw [hv] at hat hvl
          have HV : Hid (v.ok u1) := hat.2.2.2.2.2
          have A4 := hat.below HM.out.below
          obtain ⟨q1, q2, q3, q4, q5, hok⟩ := id A4
          obtain ⟨ts, hst0⟩ := HM.out.box S v HV.out 31
          obtain ⟨vk, va, vl, vc, vt, vi, vat, vx⟩ := v
          have hk8 := HV.out.2.2.2.2.1
          have hbx := HV.out.2.2.2.2.2
          simp only at q1 q2 q3 q4 q5 hvl hk8 hbx
          clear hv hat A4 hok
          have hcases : vk % 7 = 0 ∨ vk % 7 = 1 ∨ vk % 7 = 2 ∨ vk % 7 = 3 ∨ vk % 7 = 4 ∨ vk % 7 = 5 ∨ vk % 7 = 6 := by omega
          rcases hcases with h7 | h7 | h7 | h7 | h7 | h7 | h7
          · have h7i : (vk : Int) % 7 = 0 := by omega
            have HST : Hid (St L u1 (wr.alloc (.cells #[.int .u8 vk, .slice va vl vc, .int .i64 vi, .int .i64 vat, .int .u8 vx] 31)) p q room ts ts wr.heap.size ⟨vk, va, vl, vc, vt, vi, vat, vx⟩) := hst0
            clear hst0 h7
            go_wp2_with fail
            generalize hW : wr.alloc (.cells #[.int .u8 vk, .slice va vl vc, .int .i64 vi, .int .i64 vat, .int .u8 vx] 31) = W at HST ⊢
            generalize hB : wr.heap.size = bx at HST ⊢
            clear hW hB q1 q2 q3 q4 q5 h7i
            obtain ⟨c0, c1, c2, c3, c4⟩ := HST.out.cells
            simp only at c0 c1 c2 c3 c4
            obtain ⟨c, hc⟩ : ∃ c, decide (ts.length < room) = c := ⟨_, rfl⟩
            have HC : Hid (decide (ts.length < room) = c) := hc
            clear hc
            go_region_held3 (fun w' => w'.cell? ⟨bx, 1, none⟩ = some (.slice va vl vc)) (go_keep)
              (first
                | (go_at_call 14; refine (on_send_link (ts := ts) S vk va vl vc vt vi vat vx c HC.out hvl HD.out).mono ?_; rintro e y' ⟨rfl, hl, d1⟩; have HE : Hid (Two L u1 y' p q room) := hl.two; clear hl HD)
                | (go_at_call 14; refine (on_send_link (ts := ts) S vk va vl vc vt vi vat vx c HC.out hvl (HST.out.drew S 1)).mono ?_; rintro e y ⟨rfl, hl, d1⟩; have HL : Hid (St L u1 y p q room (sendT room vt ts) ts bx ⟨vk, va, vl, vc, vt, vi, vat, vx⟩) := hl; clear hl)
                | (go_at_call 22; refine (on_send_doc (ts := ts) S vk va vl vc vt vi vat vx c HC.out hvl HL.out).mono ?_; rintro e y' ⟨rfl, hl, d1⟩; have HE : Hid (Two L u1 y' p q room) := hl.two; clear hl HL)
                | (go_at_call 22; refine (on_send_doc (ts := ts) S vk va vl vc vt vi vat vx c HC.out hvl (HST.out.drew S 1)).mono ?_; rintro e y ⟨rfl, hl, d1⟩; have HD : Hid (St L u1 y p q room ts (sendT room vt ts) bx ⟨vk, va, vl, vc, vt, vi, vat, vx⟩) := hl; clear hl))
            all_goals
              go_wp2_with fail
              obtain ⟨ts', F', G', rs, a', cap', hp, ht⟩ := HE.out
              obtain ⟨n, hn⟩ : ∃ n, rs.length = n := ⟨_, rfl⟩
              have hcq := hp.doc.c0
              rw [hn] at hcq
              have HP : Hid (Pair L u1 y' F' G' p q room ts' rs a' cap' ∧ rs.length = n ∧ texts rs = ts') := ⟨hp, hn, ht⟩
              clear hp hn ht
              go_region_held3 (fun w' => w'.cell? ⟨q, 0, none⟩ = some (.slice a' n cap')) (go_keep)
                (first
                  | (go_at_call 13; refine (both_all S n HP.out.2.1 HP.out.2.2 (HP.out.1.later S (drewN_below _ 1))).mono ?_; rintro e y1 ⟨a1, c1', ss, rfl, l1, l2, tx, tw, hcy⟩)
                  | (go_at_call 23; refine (same_yes a1 a' n c1' cap' ss rs _ ?_ ?_ tx).mono ?_; (exact l1); (exact l2); rintro e y2 ⟨rfl, m, rfl⟩))
              all_goals
                go_wp2_with fail
                go_roundw
                case rel => exact ⟨k + 1, by omega, by go_num, tw.later S (drewN_below _ _)⟩
                case measure => simp [intOf]; omega
          · have h7i : (vk : Int) % 7 = 1 := by omega
            have HST : Hid (St L u1 (wr.alloc (.cells #[.int .u8 vk, .slice va vl vc, .int .i64 vi, .int .i64 vat, .int .u8 vx] 31)) p q room ts ts wr.heap.size ⟨vk, va, vl, vc, vt, vi, vat, vx⟩) := hst0
            clear hst0 h7
            go_wp2_with fail
            generalize hW : wr.alloc (.cells #[.int .u8 vk, .slice va vl vc, .int .i64 vi, .int .i64 vat, .int .u8 vx] 31) = W at HST ⊢
            generalize hB : wr.heap.size = bx at HST ⊢
            clear hW hB q1 q2 q3 q4 q5 h7i
            obtain ⟨c0, c1, c2, c3, c4⟩ := HST.out.cells
            simp only at c0 c1 c2 c3 c4
            obtain ⟨c, hc⟩ : ∃ c, decide (ts.length < room) = c := ⟨_, rfl⟩
            have HC : Hid (decide (ts.length < room) = c) := hc
            clear hc
            go_region_held3 (fun w' => w'.cell? ⟨bx, 1, none⟩ = some (.slice va vl vc)) (go_keep)
              (first
                | (go_at_call 14; refine (on_send_link (ts := ts) S vk va vl vc vt vi vat vx c HC.out hvl HD.out).mono ?_; rintro e y' ⟨rfl, hl, d1⟩; have HE : Hid (Two L u1 y' p q room) := hl.two; clear hl HD)
                | (go_at_call 14; refine (on_send_link (ts := ts) S vk va vl vc vt vi vat vx c HC.out hvl (HST.out.drew S 1)).mono ?_; rintro e y ⟨rfl, hl, d1⟩; have HL : Hid (St L u1 y p q room (sendT room vt ts) ts bx ⟨vk, va, vl, vc, vt, vi, vat, vx⟩) := hl; clear hl)
                | (go_at_call 22; refine (on_send_doc (ts := ts) S vk va vl vc vt vi vat vx c HC.out hvl HL.out).mono ?_; rintro e y' ⟨rfl, hl, d1⟩; have HE : Hid (Two L u1 y' p q room) := hl.two; clear hl HL)
                | (go_at_call 22; refine (on_send_doc (ts := ts) S vk va vl vc vt vi vat vx c HC.out hvl (HST.out.drew S 1)).mono ?_; rintro e y ⟨rfl, hl, d1⟩; have HD : Hid (St L u1 y p q room ts (sendT room vt ts) bx ⟨vk, va, vl, vc, vt, vi, vat, vx⟩) := hl; clear hl))
            all_goals
              go_wp2_with fail
              obtain ⟨ts', F', G', rs, a', cap', hp, ht⟩ := HE.out
              obtain ⟨n, hn⟩ : ∃ n, rs.length = n := ⟨_, rfl⟩
              have hcq := hp.doc.c0
              rw [hn] at hcq
              have HP : Hid (Pair L u1 y' F' G' p q room ts' rs a' cap' ∧ rs.length = n ∧ texts rs = ts') := ⟨hp, hn, ht⟩
              clear hp hn ht
              go_region_held3 (fun w' => w'.cell? ⟨q, 0, none⟩ = some (.slice a' n cap')) (go_keep)
                (first
                  | (go_at_call 13; refine (both_all S n HP.out.2.1 HP.out.2.2 (HP.out.1.later S (drewN_below _ 1))).mono ?_; rintro e y1 ⟨a1, c1', ss, rfl, l1, l2, tx, tw, hcy⟩)
                  | (go_at_call 23; refine (same_yes a1 a' n c1' cap' ss rs _ ?_ ?_ tx).mono ?_; (exact l1); (exact l2); rintro e y2 ⟨rfl, m, rfl⟩))
              all_goals
                go_wp2_with fail
                go_roundw
                case rel => exact ⟨k + 1, by omega, by go_num, tw.later S (drewN_below _ _)⟩
                case measure => simp [intOf]; omega
          · have h7i : (vk : Int) % 7 = 2 := by omega
            have HST : Hid (St L u1 (wr.alloc (.cells #[.int .u8 vk, .slice va vl vc, .int .i64 vi, .int .i64 vat, .int .u8 vx] 31)) p q room ts ts wr.heap.size ⟨vk, va, vl, vc, vt, vi, vat, vx⟩) := hst0
            clear hst0 h7
            go_wp2_with fail
            generalize hW : wr.alloc (.cells #[.int .u8 vk, .slice va vl vc, .int .i64 vi, .int .i64 vat, .int .u8 vx] 31) = W at HST ⊢
            generalize hB : wr.heap.size = bx at HST ⊢
            clear hW hB q1 q2 q3 q4 q5 h7i
            obtain ⟨c0, c1, c2, c3, c4⟩ := HST.out.cells
            simp only at c0 c1 c2 c3 c4
            obtain ⟨c, hc⟩ : ∃ c, decide (ts.length < room) = c := ⟨_, rfl⟩
            have HC : Hid (decide (ts.length < room) = c) := hc
            clear hc
            go_region_held3 (fun w' => w'.cell? ⟨bx, 1, none⟩ = some (.slice va vl vc)) (go_keep)
              (first
                | (go_at_call 14; refine (on_send_link (ts := ts) S vk va vl vc vt vi vat vx c HC.out hvl HD.out).mono ?_; rintro e y' ⟨rfl, hl, d1⟩; have HE : Hid (Two L u1 y' p q room) := hl.two; clear hl HD)
                | (go_at_call 14; refine (on_send_link (ts := ts) S vk va vl vc vt vi vat vx c HC.out hvl (HST.out.drew S 1)).mono ?_; rintro e y ⟨rfl, hl, d1⟩; have HL : Hid (St L u1 y p q room (sendT room vt ts) ts bx ⟨vk, va, vl, vc, vt, vi, vat, vx⟩) := hl; clear hl)
                | (go_at_call 22; refine (on_send_doc (ts := ts) S vk va vl vc vt vi vat vx c HC.out hvl HL.out).mono ?_; rintro e y' ⟨rfl, hl, d1⟩; have HE : Hid (Two L u1 y' p q room) := hl.two; clear hl HL)
                | (go_at_call 22; refine (on_send_doc (ts := ts) S vk va vl vc vt vi vat vx c HC.out hvl (HST.out.drew S 1)).mono ?_; rintro e y ⟨rfl, hl, d1⟩; have HD : Hid (St L u1 y p q room ts (sendT room vt ts) bx ⟨vk, va, vl, vc, vt, vi, vat, vx⟩) := hl; clear hl))
            all_goals
              go_wp2_with fail
              obtain ⟨ts', F', G', rs, a', cap', hp, ht⟩ := HE.out
              obtain ⟨n, hn⟩ : ∃ n, rs.length = n := ⟨_, rfl⟩
              have hcq := hp.doc.c0
              rw [hn] at hcq
              have HP : Hid (Pair L u1 y' F' G' p q room ts' rs a' cap' ∧ rs.length = n ∧ texts rs = ts') := ⟨hp, hn, ht⟩
              clear hp hn ht
              go_region_held3 (fun w' => w'.cell? ⟨q, 0, none⟩ = some (.slice a' n cap')) (go_keep)
                (first
                  | (go_at_call 13; refine (both_all S n HP.out.2.1 HP.out.2.2 (HP.out.1.later S (drewN_below _ 1))).mono ?_; rintro e y1 ⟨a1, c1', ss, rfl, l1, l2, tx, tw, hcy⟩)
                  | (go_at_call 23; refine (same_yes a1 a' n c1' cap' ss rs _ ?_ ?_ tx).mono ?_; (exact l1); (exact l2); rintro e y2 ⟨rfl, m, rfl⟩))
              all_goals
                go_wp2_with fail
                go_roundw
                case rel => exact ⟨k + 1, by omega, by go_num, tw.later S (drewN_below _ _)⟩
                case measure => simp [intOf]; omega
          · have h7i : (vk : Int) % 7 = 3 := by omega
            have HST : Hid (St L u1 (wr.alloc (.cells #[.int .u8 vk, .slice va vl vc, .int .i64 vi, .int .i64 vat, .int .u8 vx] 31)) p q room ts ts wr.heap.size ⟨vk, va, vl, vc, vt, vi, vat, vx⟩) := hst0
            clear hst0 h7
            go_wp2_with fail
            generalize hW : wr.alloc (.cells #[.int .u8 vk, .slice va vl vc, .int .i64 vi, .int .i64 vat, .int .u8 vx] 31) = W at HST ⊢
            generalize hB : wr.heap.size = bx at HST ⊢
            clear hW hB q1 q2 q3 q4 q5 h7i
            obtain ⟨c0, c1, c2, c3, c4⟩ := HST.out.cells
            simp only at c0 c1 c2 c3 c4
            obtain ⟨c, hc⟩ : ∃ c, decide (canTake vi ts) = c := ⟨_, rfl⟩
            have HC : Hid (decide (canTake vi ts) = c) := hc
            clear hc
            refine (on_take_link (ts := ts) S vk va vl vc vt vi vat vx c HC.out HST.out).mono ?_
            rintro e y ⟨ra, n1, cx, rfl, hT, d2⟩
            have HT : Hid (Taken L u1 y p q room (takeT vi ts) ts bx ⟨vk, va, vl, vc, vt, vi, vat, vx⟩ ra n1 (tookT vi ts)) := hT
            clear hT c0 c1 c2 c3 c4
            go_wp2_with fail
            refine (on_take_doc (ts := ts) S vk va vl vc vt vi vat vx c HC.out HT.out).mono ?_
            rintro e y' ⟨rb, n2, cy, rfl, hst, o1, o2⟩
            have HE : Hid (Two L u1 y' p q room) := hst.two
            have k1 := str_run (cap := cx) o1
            have k2 := str_run (cap := cy) o2
            generalize hZ : strOf (tookT vi ts) = Z at k1 k2
            have he : (Z.toList == Z.toList) = true := by simp
            clear hst o1 o2 hZ d2
            go_wp2_with fail
            obtain ⟨ts', F', G', rs, a', cap', hp, ht⟩ := HE.out
            obtain ⟨n, hn⟩ : ∃ n, rs.length = n := ⟨_, rfl⟩
            have hcq := hp.doc.c0
            rw [hn] at hcq
            have HP : Hid (Pair L u1 y' F' G' p q room ts' rs a' cap' ∧ rs.length = n ∧ texts rs = ts') := ⟨hp, hn, ht⟩
            clear hp hn ht
            go_region_held3 (fun w' => w'.cell? ⟨q, 0, none⟩ = some (.slice a' n cap')) (go_keep)
              (first
                | (go_at_call 13; refine (both_all S n HP.out.2.1 HP.out.2.2 (HP.out.1.later S (drewN_below _ 1))).mono ?_; rintro e y1 ⟨a1, c1', ss, rfl, l1, l2, tx, tw, hcy⟩)
                | (go_at_call 23; refine (same_yes a1 a' n c1' cap' ss rs _ ?_ ?_ tx).mono ?_; (exact l1); (exact l2); rintro e y2 ⟨rfl, m, rfl⟩))
            all_goals
              go_wp2_with fail
              go_roundw
              case rel => exact ⟨k + 1, by omega, by go_num, tw.later S (drewN_below _ _)⟩
              case measure => simp [intOf]; omega
          · have h7i : (vk : Int) % 7 = 4 := by omega
            have HST : Hid (St L u1 (wr.alloc (.cells #[.int .u8 vk, .slice va vl vc, .int .i64 vi, .int .i64 vat, .int .u8 vx] 31)) p q room ts ts wr.heap.size ⟨vk, va, vl, vc, vt, vi, vat, vx⟩) := hst0
            clear hst0 h7
            go_wp2_with fail
            generalize hW : wr.alloc (.cells #[.int .u8 vk, .slice va vl vc, .int .i64 vi, .int .i64 vat, .int .u8 vx] 31) = W at HST ⊢
            generalize hB : wr.heap.size = bx at HST ⊢
            clear hW hB q1 q2 q3 q4 q5 h7i
            obtain ⟨c0, c1, c2, c3, c4⟩ := HST.out.cells
            simp only at c0 c1 c2 c3 c4
            obtain ⟨c, hc⟩ : ∃ c, decide (0 ≤ vi ∧ vi < ts.length ∧ ts.length < room) = c := ⟨_, rfl⟩
            have HC : Hid (decide (0 ≤ vi ∧ vi < ts.length ∧ ts.length < room) = c) := hc
            clear hc
            go_region_held3 (fun w' => w'.cell? ⟨bx, 2, none⟩ = some (.int .i64 vi)) (go_keep)
              (first
                | (go_at_call 16; refine (on_twice_link (ts := ts) S vk va vl vc vt vi vat vx c HC.out HD.out).mono ?_; rintro e y' ⟨rfl, hl, d2⟩; have HE : Hid (Two L u1 y' p q room) := hl.two; clear hl HD)
                | (go_at_call 16; refine (on_twice_link (ts := ts) S vk va vl vc vt vi vat vx c HC.out (HST.out.drew S 1)).mono ?_; rintro e y ⟨rfl, hl, d2⟩; have HL : Hid (St L u1 y p q room (twiceT room vi ts) ts bx ⟨vk, va, vl, vc, vt, vi, vat, vx⟩) := hl; clear hl)
                | (go_at_call 20; refine (on_twice_doc (ts := ts) S vk va vl vc vt vi vat vx c HC.out HL.out).mono ?_; rintro e y' ⟨rfl, hl, d2⟩; have HE : Hid (Two L u1 y' p q room) := hl.two; clear hl HL)
                | (go_at_call 20; refine (on_twice_doc (ts := ts) S vk va vl vc vt vi vat vx c HC.out (HST.out.drew S 1)).mono ?_; rintro e y ⟨rfl, hl, d2⟩; have HD : Hid (St L u1 y p q room ts (twiceT room vi ts) bx ⟨vk, va, vl, vc, vt, vi, vat, vx⟩) := hl; clear hl))
            all_goals
              go_wp2_with fail
              obtain ⟨ts', F', G', rs, a', cap', hp, ht⟩ := HE.out
              obtain ⟨n, hn⟩ : ∃ n, rs.length = n := ⟨_, rfl⟩
              have hcq := hp.doc.c0
              rw [hn] at hcq
              have HP : Hid (Pair L u1 y' F' G' p q room ts' rs a' cap' ∧ rs.length = n ∧ texts rs = ts') := ⟨hp, hn, ht⟩
              clear hp hn ht
              go_region_held3 (fun w' => w'.cell? ⟨q, 0, none⟩ = some (.slice a' n cap')) (go_keep)
                (first
                  | (go_at_call 13; refine (both_all S n HP.out.2.1 HP.out.2.2 (HP.out.1.later S (drewN_below _ 1))).mono ?_; rintro e y1 ⟨a1, c1', ss, rfl, l1, l2, tx, tw, hcy⟩)
                  | (go_at_call 23; refine (same_yes a1 a' n c1' cap' ss rs _ ?_ ?_ tx).mono ?_; (exact l1); (exact l2); rintro e y2 ⟨rfl, m, rfl⟩))
              all_goals
                go_wp2_with fail
                go_roundw
                case rel => exact ⟨k + 1, by omega, by go_num, tw.later S (drewN_below _ _)⟩
                case measure => simp [intOf]; omega
          · have h7i : (vk : Int) % 7 = 5 := by omega
            have HST : Hid (St L u1 (wr.alloc (.cells #[.int .u8 vk, .slice va vl vc, .int .i64 vi, .int .i64 vat, .int .u8 vx] 31)) p q room ts ts wr.heap.size ⟨vk, va, vl, vc, vt, vi, vat, vx⟩) := hst0
            clear hst0 h7
            go_wp2_with fail
            generalize hW : wr.alloc (.cells #[.int .u8 vk, .slice va vl vc, .int .i64 vi, .int .i64 vat, .int .u8 vx] 31) = W at HST ⊢
            generalize hB : wr.heap.size = bx at HST ⊢
            clear hW hB q1 q2 q3 q4 q5 h7i
            obtain ⟨c0, c1, c2, c3, c4⟩ := HST.out.cells
            simp only at c0 c1 c2 c3 c4
            obtain ⟨c, hc⟩ : ∃ c, decide (canBend ⟨vk, va, vl, vc, vt, vi, vat, vx⟩ ts) = c := ⟨_, rfl⟩
            have HC : Hid (decide (canBend ⟨vk, va, vl, vc, vt, vi, vat, vx⟩ ts) = c) := hc
            clear hc
            go_region_held3 (fun w' => w'.cell? ⟨bx, 2, none⟩ = some (.int .i64 vi) ∧ w'.cell? ⟨bx, 3, none⟩ = some (.int .i64 vat) ∧ w'.cell? ⟨bx, 4, none⟩ = some (.int .u8 vx)) (go_keep)
              (first
                | (go_at_call 17; refine (on_bend_link (ts := ts) S vk va vl vc vt vi vat vx c HC.out HD.out).mono ?_; rintro e y' ⟨rfl, hl, d2, d3, d4⟩; have HE : Hid (Two L u1 y' p q room) := hl.two; clear hl HD)
                | (go_at_call 17; refine (on_bend_link (ts := ts) S vk va vl vc vt vi vat vx c HC.out (HST.out.drew S 1)).mono ?_; rintro e y ⟨rfl, hl, d2, d3, d4⟩; have HL : Hid (St L u1 y p q room (bendT ⟨vk, va, vl, vc, vt, vi, vat, vx⟩ ts) ts bx ⟨vk, va, vl, vc, vt, vi, vat, vx⟩) := hl; clear hl)
                | (go_at_call 21; refine (on_bend_doc (ts := ts) S vk va vl vc vt vi vat vx c HC.out HL.out).mono ?_; rintro e y' ⟨rfl, hl, d2, d3, d4⟩; have HE : Hid (Two L u1 y' p q room) := hl.two; clear hl HL)
                | (go_at_call 21; refine (on_bend_doc (ts := ts) S vk va vl vc vt vi vat vx c HC.out (HST.out.drew S 1)).mono ?_; rintro e y ⟨rfl, hl, d2, d3, d4⟩; have HD : Hid (St L u1 y p q room ts (bendT ⟨vk, va, vl, vc, vt, vi, vat, vx⟩ ts) bx ⟨vk, va, vl, vc, vt, vi, vat, vx⟩) := hl; clear hl))
            all_goals
              go_wp2_with fail
              obtain ⟨ts', F', G', rs, a', cap', hp, ht⟩ := HE.out
              obtain ⟨n, hn⟩ : ∃ n, rs.length = n := ⟨_, rfl⟩
              have hcq := hp.doc.c0
              rw [hn] at hcq
              have HP : Hid (Pair L u1 y' F' G' p q room ts' rs a' cap' ∧ rs.length = n ∧ texts rs = ts') := ⟨hp, hn, ht⟩
              clear hp hn ht
              go_region_held3 (fun w' => w'.cell? ⟨q, 0, none⟩ = some (.slice a' n cap')) (go_keep)
                (first
                  | (go_at_call 13; refine (both_all S n HP.out.2.1 HP.out.2.2 (HP.out.1.later S (drewN_below _ 1))).mono ?_; rintro e y1 ⟨a1, c1', ss, rfl, l1, l2, tx, tw, hcy⟩)
                  | (go_at_call 23; refine (same_yes a1 a' n c1' cap' ss rs _ ?_ ?_ tx).mono ?_; (exact l1); (exact l2); rintro e y2 ⟨rfl, m, rfl⟩))
              all_goals
                go_wp2_with fail
                go_roundw
                case rel => exact ⟨k + 1, by omega, by go_num, tw.later S (drewN_below _ _)⟩
                case measure => simp [intOf]; omega
          · have h7i : (vk : Int) % 7 = 6 := by omega
            have HST : Hid (St L u1 (wr.alloc (.cells #[.int .u8 vk, .slice va vl vc, .int .i64 vi, .int .i64 vat, .int .u8 vx] 31)) p q room ts ts wr.heap.size ⟨vk, va, vl, vc, vt, vi, vat, vx⟩) := hst0
            clear hst0 h7
            go_wp2_with fail
            generalize hW : wr.alloc (.cells #[.int .u8 vk, .slice va vl vc, .int .i64 vi, .int .i64 vat, .int .u8 vx] 31) = W at HST ⊢
            generalize hB : wr.heap.size = bx at HST ⊢
            clear hW hB q1 q2 q3 q4 q5 h7i
            obtain ⟨c0, c1, c2, c3, c4⟩ := HST.out.cells
            simp only at c0 c1 c2 c3 c4
            obtain ⟨c, hc⟩ : ∃ c, decide (canBend ⟨vk, va, vl, vc, vt, vi, vat, vx⟩ ts) = c := ⟨_, rfl⟩
            have HC : Hid (decide (canBend ⟨vk, va, vl, vc, vt, vi, vat, vx⟩ ts) = c) := hc
            clear hc
            go_region_held3 (fun w' => w'.cell? ⟨bx, 2, none⟩ = some (.int .i64 vi) ∧ w'.cell? ⟨bx, 3, none⟩ = some (.int .i64 vat) ∧ w'.cell? ⟨bx, 4, none⟩ = some (.int .u8 vx)) (go_keep)
              (first
                | (go_at_call 17; refine (on_bend_link (ts := ts) S vk va vl vc vt vi vat vx c HC.out HD.out).mono ?_; rintro e y' ⟨rfl, hl, d2, d3, d4⟩; have HE : Hid (Two L u1 y' p q room) := hl.two; clear hl HD)
                | (go_at_call 17; refine (on_bend_link (ts := ts) S vk va vl vc vt vi vat vx c HC.out (HST.out.drew S 1)).mono ?_; rintro e y ⟨rfl, hl, d2, d3, d4⟩; have HL : Hid (St L u1 y p q room (bendT ⟨vk, va, vl, vc, vt, vi, vat, vx⟩ ts) ts bx ⟨vk, va, vl, vc, vt, vi, vat, vx⟩) := hl; clear hl)
                | (go_at_call 21; refine (on_bend_doc (ts := ts) S vk va vl vc vt vi vat vx c HC.out HL.out).mono ?_; rintro e y' ⟨rfl, hl, d2, d3, d4⟩; have HE : Hid (Two L u1 y' p q room) := hl.two; clear hl HL)
                | (go_at_call 21; refine (on_bend_doc (ts := ts) S vk va vl vc vt vi vat vx c HC.out (HST.out.drew S 1)).mono ?_; rintro e y ⟨rfl, hl, d2, d3, d4⟩; have HD : Hid (St L u1 y p q room ts (bendT ⟨vk, va, vl, vc, vt, vi, vat, vx⟩ ts) bx ⟨vk, va, vl, vc, vt, vi, vat, vx⟩) := hl; clear hl))
            all_goals
              go_wp2_with fail
              obtain ⟨ts', F', G', rs, a', cap', hp, ht⟩ := HE.out
              obtain ⟨n, hn⟩ : ∃ n, rs.length = n := ⟨_, rfl⟩
              have hcq := hp.doc.c0
              rw [hn] at hcq
              have HP : Hid (Pair L u1 y' F' G' p q room ts' rs a' cap' ∧ rs.length = n ∧ texts rs = ts') := ⟨hp, hn, ht⟩
              clear hp hn ht
              go_region_held3 (fun w' => w'.cell? ⟨q, 0, none⟩ = some (.slice a' n cap')) (go_keep)
                (first
                  | (go_at_call 13; refine (both_all S n HP.out.2.1 HP.out.2.2 (HP.out.1.later S (drewN_below _ 1))).mono ?_; rintro e y1 ⟨a1, c1', ss, rfl, l1, l2, tx, tw, hcy⟩)
                  | (go_at_call 23; refine (same_yes a1 a' n c1' cap' ss rs _ ?_ ?_ tx).mono ?_; (exact l1); (exact l2); rintro e y2 ⟨rfl, m, rfl⟩))
              all_goals
                go_wp2_with fail
                go_roundw
                case rel => exact ⟨k + 1, by omega, by go_num, tw.later S (drewN_below _ _)⟩
                case measure => simp [intOf]; omega
        · obtain rfl : k = len0 := by omega
          go_wp2_with fail
          go_ret
          exact ⟨rfl, HM.out.below⟩
theorem linkDoes_any (S : LinkSpec L) (w : World) (z : Int) (hz : (Lit.int .i64 z).wf = true) (a0 : Option Addr) (len0 cap0 : Nat) (os : List OpV) (ho : Ops w a0 len0 os) :
    Calls Try.prog 6 #[.int .i64 z, .slice a0 len0 cap0] w fun e u => e = .returned (.bool true) ∧ Below w.heap.size w u :=
  linkDoes_walk S z (bounds_i64 hz) a0 len0 cap0 os w ho
end Go.Proofs.Ytjelfenkbngfiaa
