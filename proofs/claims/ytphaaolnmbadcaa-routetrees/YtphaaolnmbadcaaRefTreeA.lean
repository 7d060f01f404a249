/-
  The document's own trees (package shunterref13): right, up, Path. Conditions: none but that the slice leads to numbers.
-/
import Derived.Test.YtphaaolnmbadcaaTreeMath
import Derived.Test.YtphaaolnmbadcaaRefPlanB
import Derived.Test.YtphaaolnmbadcaaSince2
namespace Go.Proofs.Ytphaaolnmbadcaa
open Go.ChangeShapes Go.WideShapes Go.ChangeAt Go.RowKit
set_option linter.unusedVariables false

namespace Tree
theorem low_not {ps : List Int} {k : Nat} (hk : k < ps.length) (h : ¬ (0 ≤ ps.getD k 0 ∧ ps.getD k 0 ≤ (k : Int))) : ok ps = false := by
  unfold ok
  rw [Bool.and_eq_false_iff]
  refine .inl ?_
  rw [← Bool.not_eq_true, low_iff]
  exact fun h1 => h (h1 k hk)
theorem ok_low {ps : List Int} (h : ∀ k, k < ps.length → 0 ≤ ps.getD k 0 ∧ ps.getD k 0 ≤ (k : Int)) : ok ps = decide (ps.length ≤ 5) := by
  unfold ok
  rw [(low_iff ps).2 h, Bool.true_and]
theorem ok_parts {ps : List Int} (h : ok ps = true) : ps.length ≤ 5 ∧ ∀ k, k < ps.length → 0 ≤ ps.getD k 0 ∧ ps.getD k 0 ≤ (k : Int) := by
  unfold ok at h
  rw [Bool.and_eq_true, decide_eq_true_eq, low_iff] at h
  exact ⟨h.2, h.1⟩
theorem ups_zero (ps : List Int) (f : Nat) : ups ps f 0 = [0] := by cases f <;> rfl
theorem ups_step (ps : List Int) (f v : Nat) (h : v ≠ 0) : ups ps (f + 1) v = (v : Int) :: ups ps f (par ps v) := by rw [ups, if_neg h]
theorem ups_len (ps : List Int) : ∀ f v, (ups ps f v).length ≤ f + 1
  | 0, v => by simp [ups]
  | f + 1, v => by
    unfold ups
    split
    · simp
    · have := ups_len ps f (par ps v)
      rw [List.length_cons]
      omega
theorem ups_pos (ps : List Int) : ∀ f v, 1 ≤ (ups ps f v).length
  | 0, v => by simp [ups]
  | f + 1, v => by unfold ups; split <;> simp
end Tree
theorem zr_get {w : World} {b off n : Nat} {l : List Int} (h : Zr w (some ⟨b, off, none⟩) n l) (k : Nat) (hk : k < n) : w.cell? ⟨b, off + k, none⟩ = some (.int .i64 (l.getD k 0)) := by
  obtain ⟨b', off', e, hc⟩ := h.at hk
  cases e
  exact hc
set_option maxHeartbeats 1000000 in
set_option maxRecDepth 100000 in
theorem rright_any {w : World} {a : Option Addr} {n c : Nat} {ps : List Int} (h : Zr w a n ps) (hn : n ≤ 17592186044416) :
    Calls Try.prog 32 #[.slice a n c] w fun e w' => e = .returned (.bool (Tree.ok ps)) ∧ w' = w := by
  have HZ : Hid (Zr w a n ps) := h
  have hln := h.1
  clear h
  go_enter Try.func32, Try.ntmps32
  go_wp2_with fail
  go_loopw [3] (fun i wr => ∃ k : Nat, k ≤ n ∧ i = .int .i64 k ∧ (∀ j, j < k → 0 ≤ ps.getD j 0 ∧ ps.getD j 0 ≤ (j : Int)) ∧ wr = w) (fun i _ => n - (intOf i).toNat)
  case atStart => exact ⟨0, Nat.zero_le _, rfl, fun j hj => by omega, rfl⟩
  case round =>
    obtain ⟨k, hk, rfl, hno, rfl⟩ := hrel
    have HN : Hid (∀ j, j < k → 0 ≤ ps.getD j 0 ∧ ps.getD j 0 ≤ (j : Int)) := hno
    clear hno
    by_cases hkn : k < n
    · obtain ⟨b, off, ha, hc⟩ := HZ.out.at hkn
      subst ha
      obtain ⟨y, hy⟩ : ∃ y, ps.getD k 0 = y := ⟨_, rfl⟩
      have HY : Hid (ps.getD k 0 = y) := hy
      rw [hy] at hc
      clear hy
      by_cases h1 : y < 0
      · have HF : Hid (Tree.ok ps = false) := Tree.low_not (k := k) (by omega) (by rw [HY.out]; omega)
        go_wp2_with fail
        go_ret
        exact ⟨by rw [HF.out]; rfl, rfl⟩
      · by_cases h2 : (k : Int) < y
        · have HF : Hid (Tree.ok ps = false) := Tree.low_not (k := k) (by omega) (by rw [HY.out]; omega)
          go_wp2_with fail
          go_ret
          exact ⟨by rw [HF.out]; rfl, rfl⟩
        · have HR : Hid (0 ≤ y ∧ y ≤ (k : Int)) := by constructor <;> omega
          go_wp2_with fail
          go_roundw
          case rel =>
            have R : ∀ j, j < k + 1 → 0 ≤ ps.getD j 0 ∧ ps.getD j 0 ≤ (j : Int) := fun j hj => by
              by_cases e : j = k
              · rw [e, HY.out]; exact HR.out
              · exact HN.out j (by omega)
            first | exact ⟨k + 1, by omega, by go_num, R, rfl⟩ | exact ⟨k + 1, by omega, by go_num, R, trivial⟩ | ((repeat apply Exists.intro); exact ⟨⟨k + 1, by omega, by go_num, R, rfl⟩, rfl⟩)
          case measure => simp [intOf]; omega
    · obtain rfl : k = n := by omega
      have hO := Tree.ok_low (ps := ps) (fun j hj => HN.out j (by omega))
      rw [hln] at hO
      have hO2 : decide (k ≤ 5) = decide ((k : Int) ≤ 5) := decide_eq_decide.2 (by omega)
      rw [hO2] at hO
      have HO : Hid (Tree.ok ps = decide ((k : Int) ≤ 5)) := hO
      clear hO2
      clear hO
      go_wp2_with fail
      go_ret
      exact ⟨by rw [HO.out]; rfl, rfl⟩
set_option maxHeartbeats 1000000 in
set_option maxRecDepth 100000 in
theorem rup_any {w : World} {a : Option Addr} {n c : Nat} {ps : List Int} (h : Zr w a n ps) (ho : Tree.ok ps = true) (v : Nat) (hv : v ≤ n) :
    Calls Try.prog 33 #[.slice a n c, .int .i64 v] w fun e w' => ∃ u, e = .returned u ∧ w'.ownsRow w.heap.size 3 1 u (Tree.ups ps 6 v).length (zcells (Tree.ups ps 6 v)) ∧ Below w.heap.size w w' := by
  have HZ : Hid (Zr w a n ps) := h
  have hln := h.1
  obtain ⟨h5, hlow⟩ := Tree.ok_parts ho
  have HL : Hid (∀ k, k < ps.length → 0 ≤ ps.getD k 0 ∧ ps.getD k 0 ≤ (k : Int)) := hlow
  have HO : Hid ((w.alloc (.cells #[.int .i64 (v : Int)] 3)).ownsRow w.heap.size 3 1 (.slice (some ⟨w.heap.size, 0, none⟩) 1 1) 1 (zcells [(v : Int)])) := World.ownsRow_lit (base := w.heap.size) (e := 3) (size := 1) w #[.int .i64 (v : Int)] 1 (Nat.le_refl _) (by unfold maxLen; omega) (by simp)
  have HB0 : Hid (Below w.heap.size w (w.alloc (.cells #[.int .i64 (v : Int)] 3))) := fresh _ _
  clear h ho hlow
  rw [hln] at h5
  go_enter Try.func33, Try.ntmps33
  go_wp2_with fail
  go_loopw [1, 5] (fun vv out wr => ∃ (x f : Nat) (pre : List Int), vv = .int .i64 x ∧ x ≤ n ∧ x ≤ f ∧ pre.length + f ≤ 6 ∧ pre ++ Tree.ups ps f x = Tree.ups ps 6 v ∧ wr.ownsRow w.heap.size 3 1 out (pre ++ [(x : Int)]).length (zcells (pre ++ [(x : Int)])) ∧ Below w.heap.size w wr) (fun vv _ _ => (intOf vv).toNat)
  case atStart => exact ⟨v, 6, [], rfl, hv, by omega, by simp, rfl, HO.out, HB0.out⟩
  case round =>
    obtain ⟨x, f, pre, rfl, hxn, hxf, hpf, hpre, hown, hB⟩ := hrel
    have HO1 : Hid (wr.ownsRow w.heap.size 3 1 u5 (pre ++ [(x : Int)]).length (zcells (pre ++ [(x : Int)]))) := hown
    have HB1 : Hid (Below w.heap.size w wr) := hB
    have HP : Hid (pre ++ Tree.ups ps f x = Tree.ups ps 6 v) := hpre
    clear hown hB hpre
    have hsz := HB1.out.size
    by_cases hx0 : x = 0
    · subst hx0
      have HE : Hid (pre ++ [((0 : Nat) : Int)] = Tree.ups ps 6 v) := by
        have := HP.out
        rw [Tree.ups_zero] at this
        exact this
      go_wp2_with fail
      go_ret
      refine ⟨_, rfl, ?_, HB1.out⟩
      have := HO1.out
      rw [HE.out] at this
      exact this
    · obtain ⟨y, rfl⟩ : ∃ y, x = y + 1 := ⟨x - 1, by omega⟩
      obtain ⟨f', rfl⟩ : ∃ f', f = f' + 1 := ⟨f - 1, by omega⟩
      obtain ⟨b, off, ha, hc⟩ := (HZ.out.below HB1.out).at (show y < n by omega)
      subst ha
      have hlw := HL.out y (by omega)
      obtain ⟨z, hz⟩ : ∃ z : Nat, ps.getD y 0 = (z : Int) := ⟨(ps.getD y 0).toNat, by omega⟩
      rw [hz] at hc hlw
      have hzy : z ≤ y := by omega
      have HS : Hid ((pre ++ [((y + 1 : Nat) : Int)]) ++ Tree.ups ps f' z = Tree.ups ps 6 v) := by
        have h1 := HP.out
        rw [Tree.ups_step ps f' (y + 1) (by omega)] at h1
        have h2 : Tree.par ps (y + 1) = z := by unfold Tree.par; rw [Nat.add_sub_cancel, hz]; omega
        rw [h2] at h1
        rw [List.append_assoc]
        exact h1
      have hpl : (pre ++ [((y + 1 : Nat) : Int)]).length ≤ 10 := by simp; omega
      clear hz hlw
      go_wp2_with (at_builtin; refine wpList_append_z rfl (.tmp 15) (.tmp 17) rfl w.heap.size u5 (pre ++ [((y + 1 : Nat) : Int)]) rfl (owns_below HO1.out (fresh _ _)) (by simp; omega) (some ⟨wr.heap.size, 0, none⟩) 1 1 [(z : Int)] rfl (zr_one wr z) (fun e => by cases e) (by omega) _ rfl ?_; intro v4 w4 hown4 hB4)
      go_roundw
      case rel =>
        have R1 : Below w.heap.size w w4 := (HB1.out.alloc hsz _).trans hB4
        have R2 : (pre ++ [((y + 1 : Nat) : Int)]).length + f' ≤ 6 := by simp; omega
        first | exact ⟨z, f', _, rfl, by omega, by omega, R2, HS.out, hown4, R1⟩ | ((repeat apply Exists.intro); exact ⟨⟨z, f', _, rfl, by omega, by omega, R2, HS.out, hown4, R1⟩, rfl⟩)
      case measure => simp [intOf]; omega
end Go.Proofs.Ytphaaolnmbadcaa
