/-
  The law RingsOrder of package shunterlaw08, over a slice of calls and one of numbers that are handed in. Conditions: that the slices lead to calls and to numbers.
-/
import Derived.Test.YtpbeldcaiceakaaRingBox
import Derived.Test.YtpbeldcaiceakaaSince2
namespace Go.Proofs.Ytpbeldcaiceakaa
open Go.ChangeShapes Go.WideShapes Go.ChangeAt Go.RowKit
set_option linter.unusedVariables false

/-- packets that bear the numbers -/
def bods (us : List Int) : List Pk := us.map fun z => ⟨0, 0, 0, z⟩
theorem bods_take {us : List Int} {k : Nat} (h : k < us.length) : (bods us).take (k + 1) = (bods us).take k ++ [⟨0, 0, 0, us.getD k 0⟩] := by
  refine take_snoc ?_
  unfold bods
  rw [List.getElem?_map, List.getD_eq_getElem?_getD, List.getElem?_eq_getElem h]
  rfl
theorem bods_drop {us : List Int} {k : Nat} (h : k < us.length) : (bods us).drop k = ⟨0, 0, 0, us.getD k 0⟩ :: (bods us).drop (k + 1) := by
  have hg : (bods us)[k]? = some ⟨0, 0, 0, us.getD k 0⟩ := by
    unfold bods
    rw [List.getElem?_map, List.getD_eq_getElem?_getD, List.getElem?_eq_getElem h]
    rfl
  obtain ⟨hl, he⟩ := List.getElem?_eq_some_iff.1 hg
  rw [List.drop_eq_getElem_cons hl, he]
theorem pushT_le (b : Bool) (t : Nat) : pushT b t ≤ t + 1 := by unfold pushT; split <;> omega
theorem popT_le (b : Bool) (t : Nat) : popT b t ≤ t := by unfold popT; split <;> omega
theorem upd_lane {Qs : Pl → List Pk} {i o : Int} {v : List Pk} : upd Qs (i, o, 0) v (2, 2, 1) = Qs (2, 2, 1) := upd_other _ _ (fun e => by simp only [Prod.mk.injEq] at e; omega)
theorem pushQ_lane {b : Bool} {Qs : Pl → List Pk} {i o : Int} {x : Pk} : pushQ b Qs (i, o, 0) x (2, 2, 1) = Qs (2, 2, 1) := by
  cases b with
  | false => rfl
  | true => exact upd_lane
set_option maxRecDepth 100000 in
set_option maxHeartbeats 8000000 in
theorem ringsOrder_walk (a : Option Addr) (la cap : Nat) (os : List OpV) (a' : Option Addr) (lb cap' : Nat) (us : List Int) (w : World) (ho : Ops w a la os) (hu : Us w a' lb us) :
    Calls Try.prog 6 #[.slice a la cap, .slice a' lb cap'] w fun e w' => e = .returned (.bool true) ∧ Below w.heap.size w w' := by
  have HO : Hid (Ops w a la os) := ho
  have HU : Hid (Us w a' lb us) := hu
  have hl1 := ho.2.1
  have hl2 := hu.2.1
  clear ho hu
  by_cases hb : 100 < la
  · go_enter Try.func6, Try.ntmps6
    go_wp2_with fail
    refine (known_any _).mono ?_
    rintro e u1 ⟨rfl, b1⟩
    go_wp2_with fail
    go_ret
    exact ⟨rfl, b1⟩
  · by_cases hc : 40 < lb
    · have hb2 : ¬ (100 : Int) < la := by omega
      go_enter Try.func6, Try.ntmps6
      go_wp2_with fail
      refine (known_any _).mono ?_
      rintro e u1 ⟨rfl, b1⟩
      go_wp2_with fail
      go_ret
      exact ⟨rfl, b1⟩
    · have hb2 : ¬ (100 : Int) < la := by omega
      have hc2 : ¬ (40 : Int) < lb := by omega
      go_enter Try.func6, Try.ntmps6
      go_wp2_with fail
      refine (known_any _).mono ?_
      rintro e u0 ⟨rfl, b0⟩
      go_wp2_with fail
      refine (m_new (w0 := w) 3 2 150 (by omega) (by omega) (by omega) b0 (G := fun _ => False) nothing).mono ?_
      rintro e u1 ⟨p, rfl, m1, _⟩
      have H1 : Hid (Solo w u1 p 3 2 150 0 0 (fun _ => [])) := m1
      clear m1 b0
      go_wp2_with fail
      go_loopw [6, 7, 8] (fun s x _ wr => ∃ (j kk t : Nat) (Qs : Pl → List Pk), (kk = j ∧ j ≤ lb ∨ kk = lb ∧ lb < j) ∧ (j ≤ la ∨ j ≤ lb) ∧ (t ≤ kk + j ∧ t ≤ kk + la) ∧ x = .int .i64 j ∧ s = .int .i64 kk ∧ Solo w wr p 3 2 150 t (2 * j) Qs ∧ Qs (2, 2, 1) = (bods us).take kk) (fun _ x _ _ => (la + lb) - (intOf x).toNat)
      case atStart => exact ⟨0, 0, 0, _, .inl ⟨rfl, Nat.zero_le _⟩, .inl (Nat.zero_le _), ⟨Nat.zero_le _, Nat.zero_le _⟩, rfl, rfl, H1.out, rfl⟩
      case round =>
        obtain ⟨j, kk, t, Qs, hjk, hjm, htt, rfl, rfl, hm, hq⟩ := hrel
        have HM : Hid (Solo w wr p 3 2 150 t (2 * j) Qs ∧ Qs (2, 2, 1) = (bods us).take kk) := ⟨hm, hq⟩
        have ht140 : t ≤ 140 := by omega
        have hj100 : j ≤ 100 := by omega
        clear hm hq H1
        by_cases hkb : kk < lb
        · have hkb' : (kk : Int) < lb := by omega
          obtain ⟨bb, bo, hab, qb⟩ := HU.out.at hkb
          subst hab
          have qb := (HM.out.1.below.cell (p := ⟨bb, bo + kk, none⟩) (cell_lt qb)).trans qb
          by_cases hjl : j < la
          · have hjl' : (j : Int) < la := by omega
            go_wp2_with fail
            refine (m_push HM.out.1 nothing (by omega) 2 2 1 (wfSmall (by omega)) ⟨0, 0, 0, us.getD kk 0⟩ true (decide_eq_true ⟨⟨⟨by simp only; omega, by simp only; omega⟩, ⟨by simp only; omega, by simp only; omega⟩, ⟨by simp only; omega, by simp only; omega⟩⟩, by omega⟩)).mono ?_
            rintro e u1 ⟨rfl, m1, _⟩
            have H1 : Hid (Solo w u1 p 3 2 150 (t + 1) (2 * j + 1) (upd Qs (2, 2, 1) (Qs (2, 2, 1) ++ [⟨0, 0, 0, us.getD kk 0⟩])) ∧ (upd Qs (2, 2, 1) (Qs (2, 2, 1) ++ [⟨0, 0, 0, us.getD kk 0⟩])) (2, 2, 1) = (bods us).take (kk + 1)) := ⟨m1, by rw [upd_same, HM.out.2, bods_take (by have := HU.out.1; omega)]⟩
            clear m1 qb
            generalize upd Qs (2, 2, 1) (Qs (2, 2, 1) ++ [⟨0, 0, 0, us.getD kk 0⟩]) = Qt at H1
            obtain ⟨b, off, v, hav, hat⟩ := HO.out.at hjl
            obtain ⟨q1, q2, q3, q4, q5, ⟨q6, q7, q8, q9⟩, hok⟩ := hat.below H1.out.1.below
            subst hav
            obtain ⟨vk, vi, vo, vl, vn, vx⟩ := v
            simp only at q1 q2 q3 q4 q5 q6 q7 q8 q9
            have HK : Hid (OpV.ok ⟨vk, vi, vo, vl, vn, vx⟩) := hok
            have hvk : vk < 256 := hok.1
            clear hat hok
            go_wp2_with fail
            refine (near_any ⟨vk, vi, vo, vl, vn, vx⟩ HK.out _).mono ?_
            rintro e u2 ⟨rfl, b2⟩
            have H2 : Hid (Solo w u2 p 3 2 150 (t + 1) (2 * j + 1) Qt) := H1.out.1.on b2
            obtain ⟨i', hi'⟩ : ∃ i', nv vn 3 vi = i' := ⟨_, rfl⟩
            obtain ⟨o', ho'⟩ : ∃ o', nv vn 3 vo = o' := ⟨_, rfl⟩
            obtain ⟨l', hl'⟩ : ∃ l', nv vn 2 vl = l' := ⟨_, rfl⟩
            have HW : Hid (I64 i' ∧ I64 o') := by
              rw [← hi', ← ho']
              exact ⟨(near_wf HK.out).1, (near_wf HK.out).2.1⟩
            have bi := HW.out.1
            have bo := HW.out.2
            unfold I64 at bi bo
            obtain ⟨bi1, bi2⟩ := bi
            obtain ⟨bo1, bo2⟩ := bo
            simp only [hi', ho', hl']
            clear b2 hi' ho' hl' q1 q2 q3 q4 q5 q6 q7 q8 q9
            by_cases hk6 : vk % 6 < 3
            · have hk6' : (vk : Int) % 6 < 3 := by omega
              by_cases hi2 : i' = 2
              · subst hi2
                by_cases ho2 : o' = 2
                · subst ho2
                  go_wp2_with fail
                  obtain ⟨bt, hbt⟩ : ∃ bt, takes 3 2 150 (t + 1) (2, 1, 0) = bt := ⟨_, rfl⟩
                  have hpt := pushT_le bt (t + 1)
                  refine (m_push (H2.out.on (fresh _ _)) nothing (by omega) 2 1 0 ⟨⟨by simp only; omega, by simp only; omega⟩, ⟨by simp only; omega, by simp only; omega⟩, ⟨by simp only; omega, by simp only; omega⟩⟩ vx bt hbt).mono ?_
                  rintro e u3 ⟨rfl, m3, _⟩
                  have H3 : Hid (Solo w u3 p 3 2 150 (pushT bt (t + 1)) (2 * (j + 1)) (pushQ bt Qt (2, 1, 0) vx) ∧ pushQ bt Qt (2, 1, 0) vx (2, 2, 1) = (bods us).take (kk + 1)) := ⟨m3, by rw [pushQ_lane]; exact H1.out.2⟩
                  clear m3 hbt
                  go_wp2_with fail
                  go_roundw
                  case rel => exact ⟨j + 1, kk + 1, _, _, by omega, by omega, by omega, by go_num, by go_num, H3.out.1, H3.out.2⟩
                  case measure => simp [intOf]; omega
                · have ho2' : (o' == 2) = false := by simpa using ho2
                  go_wp2_with fail
                  obtain ⟨bt, hbt⟩ : ∃ bt, takes 3 2 150 (t + 1) (2, o', 0) = bt := ⟨_, rfl⟩
                  have hpt := pushT_le bt (t + 1)
                  refine (m_push (H2.out.on (fresh _ _)) nothing (by omega) 2 o' 0 ⟨⟨by simp only; omega, by simp only; omega⟩, ⟨by simp only; omega, by simp only; omega⟩, ⟨by simp only; omega, by simp only; omega⟩⟩ vx bt hbt).mono ?_
                  rintro e u3 ⟨rfl, m3, _⟩
                  have H3 : Hid (Solo w u3 p 3 2 150 (pushT bt (t + 1)) (2 * (j + 1)) (pushQ bt Qt (2, o', 0) vx) ∧ pushQ bt Qt (2, o', 0) vx (2, 2, 1) = (bods us).take (kk + 1)) := ⟨m3, by rw [pushQ_lane]; exact H1.out.2⟩
                  clear m3 hbt
                  go_wp2_with fail
                  go_roundw
                  case rel => exact ⟨j + 1, kk + 1, _, _, by omega, by omega, by omega, by go_num, by go_num, H3.out.1, H3.out.2⟩
                  case measure => simp [intOf]; omega
              · have hi2' : (i' == 2) = false := by simpa using hi2
                go_wp2_with fail
                obtain ⟨bt, hbt⟩ : ∃ bt, takes 3 2 150 (t + 1) (i', o', 0) = bt := ⟨_, rfl⟩
                have hpt := pushT_le bt (t + 1)
                refine (m_push (H2.out.on (fresh _ _)) nothing (by omega) i' o' 0 ⟨⟨by simp only; omega, by simp only; omega⟩, ⟨by simp only; omega, by simp only; omega⟩, ⟨by simp only; omega, by simp only; omega⟩⟩ vx bt hbt).mono ?_
                rintro e u3 ⟨rfl, m3, _⟩
                have H3 : Hid (Solo w u3 p 3 2 150 (pushT bt (t + 1)) (2 * (j + 1)) (pushQ bt Qt (i', o', 0) vx) ∧ pushQ bt Qt (i', o', 0) vx (2, 2, 1) = (bods us).take (kk + 1)) := ⟨m3, by rw [pushQ_lane]; exact H1.out.2⟩
                clear m3 hbt
                go_wp2_with fail
                go_roundw
                case rel => exact ⟨j + 1, kk + 1, _, _, by omega, by omega, by omega, by go_num, by go_num, H3.out.1, H3.out.2⟩
                case measure => simp [intOf]; omega
            · have hk6' : ¬ (vk : Int) % 6 < 3 := by omega
              by_cases hi2 : i' = 2
              · subst hi2
                by_cases ho2 : o' = 2
                · subst ho2
                  go_wp2_with fail
                  obtain ⟨x, hx⟩ : ∃ x, hd (Qt (2, 1, 0)) = x := ⟨_, rfl⟩
                  obtain ⟨bt, hbt⟩ : ∃ bt, (!(Qt (2, 1, 0)).isEmpty) = bt := ⟨_, rfl⟩
                  have hpt := popT_le bt (t + 1)
                  refine (m_pop (H2.out.on (fresh _ _)) nothing (by omega) 2 1 0 ⟨⟨by simp only; omega, by simp only; omega⟩, ⟨by simp only; omega, by simp only; omega⟩, ⟨by simp only; omega, by simp only; omega⟩⟩ x bt hx hbt).mono ?_
                  rintro e u3 ⟨rfl, m3, _⟩
                  have H3 : Hid (Solo w u3 p 3 2 150 (popT bt (t + 1)) (2 * (j + 1)) (upd Qt (2, 1, 0) (Qt (2, 1, 0)).tail) ∧ (upd Qt (2, 1, 0) (Qt (2, 1, 0)).tail) (2, 2, 1) = (bods us).take (kk + 1)) := ⟨m3, by rw [upd_lane]; exact H1.out.2⟩
                  clear m3 hbt hx
                  go_wp2_with fail
                  go_roundw
                  case rel => exact ⟨j + 1, kk + 1, _, _, by omega, by omega, by omega, by go_num, by go_num, H3.out.1, H3.out.2⟩
                  case measure => simp [intOf]; omega
                · have ho2' : (o' == 2) = false := by simpa using ho2
                  go_wp2_with fail
                  obtain ⟨x, hx⟩ : ∃ x, hd (Qt (2, o', 0)) = x := ⟨_, rfl⟩
                  obtain ⟨bt, hbt⟩ : ∃ bt, (!(Qt (2, o', 0)).isEmpty) = bt := ⟨_, rfl⟩
                  have hpt := popT_le bt (t + 1)
                  refine (m_pop (H2.out.on (fresh _ _)) nothing (by omega) 2 o' 0 ⟨⟨by simp only; omega, by simp only; omega⟩, ⟨by simp only; omega, by simp only; omega⟩, ⟨by simp only; omega, by simp only; omega⟩⟩ x bt hx hbt).mono ?_
                  rintro e u3 ⟨rfl, m3, _⟩
                  have H3 : Hid (Solo w u3 p 3 2 150 (popT bt (t + 1)) (2 * (j + 1)) (upd Qt (2, o', 0) (Qt (2, o', 0)).tail) ∧ (upd Qt (2, o', 0) (Qt (2, o', 0)).tail) (2, 2, 1) = (bods us).take (kk + 1)) := ⟨m3, by rw [upd_lane]; exact H1.out.2⟩
                  clear m3 hbt hx
                  go_wp2_with fail
                  go_roundw
                  case rel => exact ⟨j + 1, kk + 1, _, _, by omega, by omega, by omega, by go_num, by go_num, H3.out.1, H3.out.2⟩
                  case measure => simp [intOf]; omega
              · have hi2' : (i' == 2) = false := by simpa using hi2
                go_wp2_with fail
                obtain ⟨x, hx⟩ : ∃ x, hd (Qt (i', o', 0)) = x := ⟨_, rfl⟩
                obtain ⟨bt, hbt⟩ : ∃ bt, (!(Qt (i', o', 0)).isEmpty) = bt := ⟨_, rfl⟩
                have hpt := popT_le bt (t + 1)
                refine (m_pop (H2.out.on (fresh _ _)) nothing (by omega) i' o' 0 ⟨⟨by simp only; omega, by simp only; omega⟩, ⟨by simp only; omega, by simp only; omega⟩, ⟨by simp only; omega, by simp only; omega⟩⟩ x bt hx hbt).mono ?_
                rintro e u3 ⟨rfl, m3, _⟩
                have H3 : Hid (Solo w u3 p 3 2 150 (popT bt (t + 1)) (2 * (j + 1)) (upd Qt (i', o', 0) (Qt (i', o', 0)).tail) ∧ (upd Qt (i', o', 0) (Qt (i', o', 0)).tail) (2, 2, 1) = (bods us).take (kk + 1)) := ⟨m3, by rw [upd_lane]; exact H1.out.2⟩
                clear m3 hbt hx
                go_wp2_with fail
                go_roundw
                case rel => exact ⟨j + 1, kk + 1, _, _, by omega, by omega, by omega, by go_num, by go_num, H3.out.1, H3.out.2⟩
                case measure => simp [intOf]; omega
          · have hjl' : ¬ (j : Int) < la := by omega
            go_wp2_with fail
            refine (m_push HM.out.1 nothing (by omega) 2 2 1 (wfSmall (by omega)) ⟨0, 0, 0, us.getD kk 0⟩ true (decide_eq_true ⟨⟨⟨by simp only; omega, by simp only; omega⟩, ⟨by simp only; omega, by simp only; omega⟩, ⟨by simp only; omega, by simp only; omega⟩⟩, by omega⟩)).mono ?_
            rintro e u1 ⟨rfl, m1, _⟩
            have H1 : Hid (Solo w u1 p 3 2 150 (t + 1) (2 * j + 1) (upd Qs (2, 2, 1) (Qs (2, 2, 1) ++ [⟨0, 0, 0, us.getD kk 0⟩])) ∧ (upd Qs (2, 2, 1) (Qs (2, 2, 1) ++ [⟨0, 0, 0, us.getD kk 0⟩])) (2, 2, 1) = (bods us).take (kk + 1)) := ⟨m1, by rw [upd_same, HM.out.2, bods_take (by have := HU.out.1; omega)]⟩
            clear m1 qb
            generalize upd Qs (2, 2, 1) (Qs (2, 2, 1) ++ [⟨0, 0, 0, us.getD kk 0⟩]) = Qt at H1
            have H3 : Hid (Solo w u1 p 3 2 150 (t + 1) (2 * (j + 1)) Qt ∧ Qt (2, 2, 1) = (bods us).take (kk + 1)) := ⟨H1.out.1.mono (by omega), H1.out.2⟩
            go_wp2_with fail
            go_roundw
            case rel => exact ⟨j + 1, kk + 1, _, _, by omega, by omega, by omega, by go_num, by go_num, H3.out.1, H3.out.2⟩
            case measure => simp [intOf]; omega
        · have hkb' : ¬ (kk : Int) < lb := by omega
          by_cases hjl : j < la
          · have hjl' : (j : Int) < la := by omega
            have H1 : Hid (Solo w wr p 3 2 150 t (2 * j + 1) Qs ∧ Qs (2, 2, 1) = (bods us).take kk) := ⟨HM.out.1.mono (by omega), HM.out.2⟩
            obtain ⟨b, off, v, hav, hat⟩ := HO.out.at hjl
            obtain ⟨q1, q2, q3, q4, q5, ⟨q6, q7, q8, q9⟩, hok⟩ := hat.below H1.out.1.below
            subst hav
            obtain ⟨vk, vi, vo, vl, vn, vx⟩ := v
            simp only at q1 q2 q3 q4 q5 q6 q7 q8 q9
            have HK : Hid (OpV.ok ⟨vk, vi, vo, vl, vn, vx⟩) := hok
            have hvk : vk < 256 := hok.1
            clear hat hok
            go_wp2_with fail
            refine (near_any ⟨vk, vi, vo, vl, vn, vx⟩ HK.out _).mono ?_
            rintro e u2 ⟨rfl, b2⟩
            have H2 : Hid (Solo w u2 p 3 2 150 t (2 * j + 1) Qs) := H1.out.1.on b2
            obtain ⟨i', hi'⟩ : ∃ i', nv vn 3 vi = i' := ⟨_, rfl⟩
            obtain ⟨o', ho'⟩ : ∃ o', nv vn 3 vo = o' := ⟨_, rfl⟩
            obtain ⟨l', hl'⟩ : ∃ l', nv vn 2 vl = l' := ⟨_, rfl⟩
            have HW : Hid (I64 i' ∧ I64 o') := by
              rw [← hi', ← ho']
              exact ⟨(near_wf HK.out).1, (near_wf HK.out).2.1⟩
            have bi := HW.out.1
            have bo := HW.out.2
            unfold I64 at bi bo
            obtain ⟨bi1, bi2⟩ := bi
            obtain ⟨bo1, bo2⟩ := bo
            simp only [hi', ho', hl']
            clear b2 hi' ho' hl' q1 q2 q3 q4 q5 q6 q7 q8 q9
            by_cases hk6 : vk % 6 < 3
            · have hk6' : (vk : Int) % 6 < 3 := by omega
              by_cases hi2 : i' = 2
              · subst hi2
                by_cases ho2 : o' = 2
                · subst ho2
                  go_wp2_with fail
                  obtain ⟨bt, hbt⟩ : ∃ bt, takes 3 2 150 t (2, 1, 0) = bt := ⟨_, rfl⟩
                  have hpt := pushT_le bt t
                  refine (m_push (H2.out.on (fresh _ _)) nothing (by omega) 2 1 0 ⟨⟨by simp only; omega, by simp only; omega⟩, ⟨by simp only; omega, by simp only; omega⟩, ⟨by simp only; omega, by simp only; omega⟩⟩ vx bt hbt).mono ?_
                  rintro e u3 ⟨rfl, m3, _⟩
                  have H3 : Hid (Solo w u3 p 3 2 150 (pushT bt t) (2 * (j + 1)) (pushQ bt Qs (2, 1, 0) vx) ∧ pushQ bt Qs (2, 1, 0) vx (2, 2, 1) = (bods us).take kk) := ⟨m3, by rw [pushQ_lane]; exact H1.out.2⟩
                  clear m3 hbt
                  go_wp2_with fail
                  go_roundw
                  case rel => exact ⟨j + 1, kk, _, _, by omega, by omega, by omega, by go_num, by go_num, H3.out.1, H3.out.2⟩
                  case measure => simp [intOf]; omega
                · have ho2' : (o' == 2) = false := by simpa using ho2
                  go_wp2_with fail
                  obtain ⟨bt, hbt⟩ : ∃ bt, takes 3 2 150 t (2, o', 0) = bt := ⟨_, rfl⟩
                  have hpt := pushT_le bt t
                  refine (m_push (H2.out.on (fresh _ _)) nothing (by omega) 2 o' 0 ⟨⟨by simp only; omega, by simp only; omega⟩, ⟨by simp only; omega, by simp only; omega⟩, ⟨by simp only; omega, by simp only; omega⟩⟩ vx bt hbt).mono ?_
                  rintro e u3 ⟨rfl, m3, _⟩
                  have H3 : Hid (Solo w u3 p 3 2 150 (pushT bt t) (2 * (j + 1)) (pushQ bt Qs (2, o', 0) vx) ∧ pushQ bt Qs (2, o', 0) vx (2, 2, 1) = (bods us).take kk) := ⟨m3, by rw [pushQ_lane]; exact H1.out.2⟩
                  clear m3 hbt
                  go_wp2_with fail
                  go_roundw
                  case rel => exact ⟨j + 1, kk, _, _, by omega, by omega, by omega, by go_num, by go_num, H3.out.1, H3.out.2⟩
                  case measure => simp [intOf]; omega
              · have hi2' : (i' == 2) = false := by simpa using hi2
                go_wp2_with fail
                obtain ⟨bt, hbt⟩ : ∃ bt, takes 3 2 150 t (i', o', 0) = bt := ⟨_, rfl⟩
                have hpt := pushT_le bt t
                refine (m_push (H2.out.on (fresh _ _)) nothing (by omega) i' o' 0 ⟨⟨by simp only; omega, by simp only; omega⟩, ⟨by simp only; omega, by simp only; omega⟩, ⟨by simp only; omega, by simp only; omega⟩⟩ vx bt hbt).mono ?_
                rintro e u3 ⟨rfl, m3, _⟩
                have H3 : Hid (Solo w u3 p 3 2 150 (pushT bt t) (2 * (j + 1)) (pushQ bt Qs (i', o', 0) vx) ∧ pushQ bt Qs (i', o', 0) vx (2, 2, 1) = (bods us).take kk) := ⟨m3, by rw [pushQ_lane]; exact H1.out.2⟩
                clear m3 hbt
                go_wp2_with fail
                go_roundw
                case rel => exact ⟨j + 1, kk, _, _, by omega, by omega, by omega, by go_num, by go_num, H3.out.1, H3.out.2⟩
                case measure => simp [intOf]; omega
            · have hk6' : ¬ (vk : Int) % 6 < 3 := by omega
              by_cases hi2 : i' = 2
              · subst hi2
                by_cases ho2 : o' = 2
                · subst ho2
                  go_wp2_with fail
                  obtain ⟨x, hx⟩ : ∃ x, hd (Qs (2, 1, 0)) = x := ⟨_, rfl⟩
                  obtain ⟨bt, hbt⟩ : ∃ bt, (!(Qs (2, 1, 0)).isEmpty) = bt := ⟨_, rfl⟩
                  have hpt := popT_le bt t
                  refine (m_pop (H2.out.on (fresh _ _)) nothing (by omega) 2 1 0 ⟨⟨by simp only; omega, by simp only; omega⟩, ⟨by simp only; omega, by simp only; omega⟩, ⟨by simp only; omega, by simp only; omega⟩⟩ x bt hx hbt).mono ?_
                  rintro e u3 ⟨rfl, m3, _⟩
                  have H3 : Hid (Solo w u3 p 3 2 150 (popT bt t) (2 * (j + 1)) (upd Qs (2, 1, 0) (Qs (2, 1, 0)).tail) ∧ (upd Qs (2, 1, 0) (Qs (2, 1, 0)).tail) (2, 2, 1) = (bods us).take kk) := ⟨m3, by rw [upd_lane]; exact H1.out.2⟩
                  clear m3 hbt hx
                  go_wp2_with fail
                  go_roundw
                  case rel => exact ⟨j + 1, kk, _, _, by omega, by omega, by omega, by go_num, by go_num, H3.out.1, H3.out.2⟩
                  case measure => simp [intOf]; omega
                · have ho2' : (o' == 2) = false := by simpa using ho2
                  go_wp2_with fail
                  obtain ⟨x, hx⟩ : ∃ x, hd (Qs (2, o', 0)) = x := ⟨_, rfl⟩
                  obtain ⟨bt, hbt⟩ : ∃ bt, (!(Qs (2, o', 0)).isEmpty) = bt := ⟨_, rfl⟩
                  have hpt := popT_le bt t
                  refine (m_pop (H2.out.on (fresh _ _)) nothing (by omega) 2 o' 0 ⟨⟨by simp only; omega, by simp only; omega⟩, ⟨by simp only; omega, by simp only; omega⟩, ⟨by simp only; omega, by simp only; omega⟩⟩ x bt hx hbt).mono ?_
                  rintro e u3 ⟨rfl, m3, _⟩
                  have H3 : Hid (Solo w u3 p 3 2 150 (popT bt t) (2 * (j + 1)) (upd Qs (2, o', 0) (Qs (2, o', 0)).tail) ∧ (upd Qs (2, o', 0) (Qs (2, o', 0)).tail) (2, 2, 1) = (bods us).take kk) := ⟨m3, by rw [upd_lane]; exact H1.out.2⟩
                  clear m3 hbt hx
                  go_wp2_with fail
                  go_roundw
                  case rel => exact ⟨j + 1, kk, _, _, by omega, by omega, by omega, by go_num, by go_num, H3.out.1, H3.out.2⟩
                  case measure => simp [intOf]; omega
              · have hi2' : (i' == 2) = false := by simpa using hi2
                go_wp2_with fail
                obtain ⟨x, hx⟩ : ∃ x, hd (Qs (i', o', 0)) = x := ⟨_, rfl⟩
                obtain ⟨bt, hbt⟩ : ∃ bt, (!(Qs (i', o', 0)).isEmpty) = bt := ⟨_, rfl⟩
                have hpt := popT_le bt t
                refine (m_pop (H2.out.on (fresh _ _)) nothing (by omega) i' o' 0 ⟨⟨by simp only; omega, by simp only; omega⟩, ⟨by simp only; omega, by simp only; omega⟩, ⟨by simp only; omega, by simp only; omega⟩⟩ x bt hx hbt).mono ?_
                rintro e u3 ⟨rfl, m3, _⟩
                have H3 : Hid (Solo w u3 p 3 2 150 (popT bt t) (2 * (j + 1)) (upd Qs (i', o', 0) (Qs (i', o', 0)).tail) ∧ (upd Qs (i', o', 0) (Qs (i', o', 0)).tail) (2, 2, 1) = (bods us).take kk) := ⟨m3, by rw [upd_lane]; exact H1.out.2⟩
                clear m3 hbt hx
                go_wp2_with fail
                go_roundw
                case rel => exact ⟨j + 1, kk, _, _, by omega, by omega, by omega, by go_num, by go_num, H3.out.1, H3.out.2⟩
                case measure => simp [intOf]; omega
          · have hjl' : ¬ (j : Int) < la := by omega
            obtain rfl : kk = lb := by omega
            have HN : Hid (Solo w wr p 3 2 150 t (300 + 0) Qs ∧ Qs (2, 2, 1) = (bods us).drop 0) := ⟨HM.out.1.mono (by omega), by
              rw [HM.out.2, List.drop_zero]
              exact List.take_of_length_le (by unfold bods; rw [List.length_map]; have := HU.out.1; omega)⟩
            clear HM hkb hjl hjk hjm htt
            go_wp2_with fail
            clear hkb' hjl'
            go_loopw [9, 10, 11] (fun x _ _ wq => ∃ (q t : Nat) (Qs : Pl → List Pk), q ≤ kk ∧ x = .int .i64 q ∧ Solo w wq p 3 2 150 t (300 + q) Qs ∧ Qs (2, 2, 1) = (bods us).drop q) (fun x _ _ _ => kk - (intOf x).toNat)
            case atStart => exact ⟨0, t, Qs, Nat.zero_le _, rfl, HN.out.1, HN.out.2⟩
            case round =>
              obtain ⟨q, t, Qs, hq, rfl, hm, hqq⟩ := hrel
              have HM : Hid (Solo w wr p 3 2 150 t (300 + q) Qs ∧ Qs (2, 2, 1) = (bods us).drop q) := ⟨hm, hqq⟩
              clear hm hqq HN
              by_cases hqk : q < kk
              · have hqk' : (q : Int) < kk := by omega
                obtain ⟨bb, bo, hab, qb⟩ := HU.out.at hqk
                subst hab
                have HC : Hid ((Qs (2, 2, 1)) = ⟨0, 0, 0, us.getD q 0⟩ :: (bods us).drop (q + 1)) := by
                  show _ = _
                  rw [HM.out.2, bods_drop (by have := HU.out.1; omega)]
                have HB : Hid (w.cell? ⟨bb, bo + q, none⟩ = some (.int .u32 (us.getD q 0))) := qb
                clear qb
                go_wp2_with fail
                refine (m_pop HM.out.1 nothing (by omega) 2 2 1 (wfSmall (by omega)) ⟨0, 0, 0, us.getD q 0⟩ true (by rw [HC.out]; rfl) (by rw [HC.out]; rfl)).mono ?_
                rintro e u3 ⟨rfl, m3, _⟩
                obtain ⟨z, hz⟩ : ∃ z, us.getD q 0 = z := ⟨_, rfl⟩
                have HB2 : Hid (w.cell? ⟨bb, bo + q, none⟩ = some (.int .u32 z)) := by have := HB.out; rw [hz] at this; exact this
                obtain ⟨Z, hZ⟩ : ∃ Z, Z = u3.alloc (.cells #[.int .i64 0, .int .i64 0, .int .i64 0, .int .u32 z] 27) := ⟨_, rfl⟩
                have H3 : Hid (Solo w Z p 3 2 150 (popT true t) (300 + (q + 1)) (upd Qs (2, 2, 1) (Qs (2, 2, 1)).tail) ∧ upd Qs (2, 2, 1) (Qs (2, 2, 1)).tail (2, 2, 1) = (bods us).drop (q + 1)) := ⟨by rw [hZ]; exact m3.on (fresh _ _), by rw [upd_same, HC.out]; rfl⟩
                have qb : Z.cell? ⟨bb, bo + q, none⟩ = some (.int .u32 z) := (H3.out.1.below.cell (p := ⟨bb, bo + q, none⟩) (cell_lt HB2.out)).trans HB2.out
                have qx : Z.cell? ⟨u3.heap.size, 3, none⟩ = some (.int .u32 z) := by rw [hZ]; simp
                simp only [hz]
                clear m3 hz
                go_wp2_with fail
                rw [← hZ]
                clear hZ
                go_region_held3 (fun w' => w'.cell? ⟨u3.heap.size, 3, none⟩ = some (.int .u32 z) ∧ w'.cell? ⟨bb, bo + q, none⟩ = some (.int .u32 z)) (go_keep) (fail)
                have H4 : Hid (Solo w (Z.drewN 1) p 3 2 150 (popT true t) (300 + (q + 1)) (upd Qs (2, 2, 1) (Qs (2, 2, 1)).tail)) := H3.out.1.on (drewN_below Z 1)
                go_wp2_with fail
                go_roundw
                case rel => exact ⟨q + 1, _, _, by omega, by go_num, H4.out, H3.out.2⟩
                case measure => simp [intOf]; omega
              · obtain rfl : q = kk := by omega
                have hlen : Hid ((Qs (2, 2, 1)).length = 0) := by
                  show _ = _
                  rw [HM.out.2, List.length_drop]
                  unfold bods
                  rw [List.length_map]
                  have := HU.out.1
                  omega
                go_wp2_with fail
                refine (m_len HM.out.1 2 2 1 (wfSmall (by omega)) 0 hlen.out).mono ?_
                rintro e u3 ⟨rfl, rfl⟩
                go_wp2_with fail
                go_ret
                exact ⟨ret_bool (by simp), HM.out.1.below⟩
theorem ringsOrder_any (_ : True) (w : World) (a : Option Addr) (la cap : Nat) (os : List OpV) (ho : Ops w a la os) (a' : Option Addr) (lb cap' : Nat) (us : List Int) (hu : Us w a' lb us) :
    Calls Try.prog 6 #[.slice a la cap, .slice a' lb cap'] w fun e w' => e = .returned (.bool true) ∧ Below w.heap.size w w' :=
  ringsOrder_walk a la cap os a' lb cap' us w ho hu
end Go.Proofs.Ytpbeldcaiceakaa
