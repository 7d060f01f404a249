/-
  The law PoolFirst of package shunterlaw07, over a slice of packets that is handed in. Conditions: that the number is of its kind, and the slice leads to packets.
-/
import Derived.Test.YtmfjalnlfcbdlaaPoolOps
namespace Go.Proofs.Ytmfjalnlfcbdlaa
open Go.ChangeShapes Go.WideShapes Go.ChangeAt Go.RowKit
set_option linter.unusedVariables false

set_option maxRecDepth 100000 in
set_option maxHeartbeats 4000000 in
theorem poolFirst_walk (a0 : Int) (h0 : 0 ≤ a0 ∧ a0 ≤ 255) (a : Option Addr) (len cap : Nat) (os : List Pk) (w : World) (ho : Pks w a len os) :
    Calls Try.prog 4 #[.int .u8 a0, .slice a len cap] w fun e w' => e = .returned (.bool true) ∧ Below w.heap.size w w' := by
  have HO : Hid (Pks w a len os) := ho
  obtain ⟨h00, h01⟩ := h0
  have hl1 := ho.2.1
  clear ho
  obtain ⟨n, hn⟩ : ∃ n : Nat, 1 + a0 % 200 = n := ⟨(1 + a0 % 200).toNat, by omega⟩
  have hn1 : 1 ≤ n := by omega
  have hn2 : n ≤ 200 := by omega
  by_cases hb : 300 < len
  · go_enter Try.func4, Try.ntmps4
    go_wp2_with fail
    refine (m_new (w0 := w) n ⟨hn1, hn2⟩ (Below.refl _ _) (G := fun _ => False) nothing).mono ?_
    rintro e u1 ⟨p, rfl, m1, _⟩
    have H1 : Hid (Solo w u1 p n (none_ n) (down n)) := m1
    clear m1
    go_wp2_with fail
    refine (known_any _).mono ?_
    rintro e u2 ⟨rfl, b2⟩
    go_wp2_with fail
    go_ret
    exact ⟨rfl, (H1.out.on b2).below⟩
  · have hb2 : ¬ (300 : Int) < len := by omega
    go_enter Try.func4, Try.ntmps4
    go_wp2_with fail
    refine (m_new (w0 := w) n ⟨hn1, hn2⟩ (Below.refl _ _) (G := fun _ => False) nothing).mono ?_
    rintro e u1 ⟨p, rfl, m1, _⟩
    have H1 : Hid (Solo w u1 p n (none_ n) (down n)) := m1
    clear m1
    go_wp2_with fail
    go_loopw [7, 8, 9] (fun i _ _ wr => ∃ (k : Nat) (S : List (Option Pk)), k ≤ len ∧ i = .int .i64 k ∧ Solo w wr p n S (up n k)) (fun i _ _ _ => len - (intOf i).toNat)
    case atStart => exact ⟨0, _, Nat.zero_le _, rfl, by rw [up_zero]; exact H1.out⟩
    case round =>
      obtain ⟨k, S, hk, rfl, hm⟩ := hrel
      have HM : Hid (Solo w wr p n S (up n k)) := hm
      clear hm H1
      by_cases hkl : k < len
      · obtain ⟨b, off, v, rfl, hat⟩ := HO.out.at hkl
        obtain ⟨q1, q2, q3, q4⟩ := hat.below HM.out.below
        obtain ⟨vs, vd, vl, vb⟩ := v
        simp only at q1 q2 q3 q4
        clear hat
        have hkl2 : (k : Int) < len := by omega
        by_cases hkn : k < n
        · have HM1 : Hid (Solo w wr p n S (up n (k + 1) ++ [k])) := by
            have := HM.out
            rw [up_snoc hkn] at this
            exact this
          have hkn2 : (k : Int) < n := by omega
          clear HM
          go_wp2_with fail
          refine (m_put_some HM1.out nothing vs vd vl vb).mono ?_
          rintro e u2 ⟨rfl, m2, _⟩
          have HM2 : Hid (Solo w u2 p n (S.set k (some ⟨vs, vd, vl, vb⟩)) (up n (k + 1))) := m2
          clear m2 HM1 q1 q2 q3 q4
          go_wp2_with fail
          go_roundw
          case rel => exact ⟨k + 1, _, by omega, by go_num, HM2.out⟩
          case measure => simp [intOf]; omega
        · have hE : up n k = [] := List.length_eq_zero_iff.1 (by rw [up_length]; omega)
          have hE1 : Hid (up n (k + 1) = []) := List.length_eq_zero_iff.1 (by rw [up_length]; omega)
          have HM1 : Hid (Solo w wr p n S []) := by
            have := HM.out
            rw [hE] at this
            exact this
          have hkn2 : ¬ (k : Int) < n := by omega
          clear HM hE
          go_wp2_with fail
          refine (m_put_none HM1.out vs vd vl vb).mono ?_
          rintro e u2 ⟨rfl, m2, _⟩
          have HM2 : Hid (Solo w u2 p n S []) := m2
          clear m2 HM1 q1 q2 q3 q4
          go_wp2_with fail
          go_roundw
          case rel => exact ⟨k + 1, _, by omega, by go_num, by rw [hE1.out]; exact HM2.out⟩
          case measure => simp [intOf]; omega
      · obtain rfl : k = len := by omega
        go_wp2_with fail
        refine (known_any _).mono ?_
        rintro e u2 ⟨rfl, b2⟩
        have H2 : Hid (Solo w u2 p n S (up n k)) := HM.out.on b2
        clear b2 HM
        go_wp2_with fail
        refine (m_free H2.out (n - k) up_length).mono ?_
        rintro e u2 ⟨rfl, rfl⟩
        go_wp2_with fail
        all_goals
          go_ret
          exact ⟨ret_bool (by simp; omega), H2.out.below⟩
theorem poolFirst_any (_ : True) (w : World) (a0 : Int) (w0 : (Lit.int .u8 a0).wf = true) (a : Option Addr) (len cap : Nat) (os : List Pk) (ho : Pks w a len os) :
    Calls Try.prog 4 #[.int .u8 a0, .slice a len cap] w fun e w' => e = .returned (.bool true) ∧ Below w.heap.size w w' :=
  poolFirst_walk a0 (bounds_u8 w0) a len cap os w ho
end Go.Proofs.Ytmfjalnlfcbdlaa
