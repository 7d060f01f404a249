/-
  The document's own plan (package shunterref12): within, lay, Beside, Port. Conditions: none but that the plan's rows are led to.
-/
import Derived.Test.YtphaaolnmbadcaaPlanRow
namespace Go.Proofs.Ytphaaolnmbadcaa
open Go.ChangeShapes Go.WideShapes Go.ChangeAt Go.RowKit
set_option linter.unusedVariables false

theorem rwithin_any (n lo hi : Int) (w : World) :
    Calls Try.prog 61 #[.int .i64 n, .int .i64 lo, .int .i64 hi] w fun e w' => e = .returned (.bool (Plan.bnd n lo hi)) ∧ w' = w := by
  by_cases h1 : lo ≤ n
  · by_cases h2 : n ≤ hi
    · have e : Plan.bnd n lo hi = true := by unfold Plan.bnd; simp [h1, h2]
      rw [e]
      go_enter Try.func61, Try.ntmps61
      go_wp2_with fail
      go_ret
      exact ⟨rfl, rfl⟩
    · have e : Plan.bnd n lo hi = false := by unfold Plan.bnd; simp [h2]
      rw [e]
      go_enter Try.func61, Try.ntmps61
      go_wp2_with fail
      go_ret
      exact ⟨rfl, rfl⟩
  · have e : Plan.bnd n lo hi = false := by unfold Plan.bnd; simp [h1]
    rw [e]
    go_enter Try.func61, Try.ntmps61
    go_wp2_with fail
    go_ret
    exact ⟨rfl, rfl⟩
theorem zr_zero {w : World} {a : Option Addr} {l : List Int} (h : l.length = 0) : Zr w a 0 l := ⟨h, by unfold maxLen; omega, .inl rfl⟩
theorem take_getD {l : List Int} {k : Nat} (h : k < l.length) : l.take (k + 1) = l.take k ++ [l.getD k 0] := by
  rw [List.take_succ_eq_append_getElem h, List.getD_eq_getElem?_getD, List.getElem?_eq_getElem h]
  rfl
set_option maxHeartbeats 2000000 in
set_option maxRecDepth 100000 in
theorem lay_any {w : World} {a : Option Addr} {n c : Nat} {l : List Int} (x : Int) (h : Zr w a n l) (hc : n ≤ c ∧ c ≤ maxLen) (hnil : a = none → c = 0) (hn : n ≤ 8796093022208) :
    Calls Try.prog 77 #[.slice a n c, .int .i64 x] w fun e w' => ∃ v, e = .returned v ∧ w'.ownsRow w.heap.size 3 1 v (Plan.lay l x).length (zcells (Plan.lay l x)) ∧ Below w.heap.size w w' := by
  have HZ : Hid (Zr w a n l) := h
  have hln := h.1
  have HC : Hid (n ≤ c ∧ c ≤ maxLen) := hc
  clear h hc
  go_enter Try.func77, Try.ntmps77
  go_wp2_with fail
  go_loopw [5, 6] (fun v i wr => ∃ k : Nat, k ≤ n ∧ i = .int .i64 k ∧ (∀ j, j < k → l.getD j 0 < x) ∧ wr.ownsRow w.heap.size 3 1 v (l.take k).length (zcells (l.take k)) ∧ Below w.heap.size w wr) (fun _ i _ => n - (intOf i).toNat)
  case atStart => exact ⟨0, Nat.zero_le _, rfl, fun j hj => by omega, World.ownsRow_nil _ _ _ _, Below.refl _ _⟩
  case round =>
    obtain ⟨k, hk, rfl, hlt, hO, hB⟩ := hrel
    have HO : Hid (wr.ownsRow w.heap.size 3 1 u5 (l.take k).length (zcells (l.take k))) := hO
    have HB : Hid (Below w.heap.size w wr) := hB
    have HL : Hid (∀ j, j < k → l.getD j 0 < x) := hlt
    clear hO hB hlt
    have hln2 : (l.take k).length = k := by rw [List.length_take]; omega
    by_cases hkn : k < n
    · obtain ⟨b, off, ha, hcell⟩ := (HZ.out.below HB.out).at hkn
      subst ha
      by_cases hx : l.getD k 0 < x
      · have HX : Hid (l.getD k 0 < x) := hx
        obtain ⟨y, hy⟩ : ∃ y, l.getD k 0 = y := ⟨_, rfl⟩
        have HY : Hid (l.getD k 0 = y) := hy
        rw [hy] at hx hcell
        clear hy
        have hsz := HB.out.size
        go_wp2_with (at_builtin; refine wpList_append_z rfl _ _ rfl w.heap.size u5 (l.take k) rfl (owns_below HO.out (fresh _ _)) (by simp; omega) _ 1 _ [y] rfl (zr_one wr y) (fun e => by cases e) (by omega) (l.take (k + 1)) (by rw [take_getD (by omega), HY.out]) ?_; intro v' w2 hown hB2)
        go_roundw
        case rel => exact ⟨k + 1, by omega, by go_num, fun j hj => by
          by_cases e : j = k
          · rw [e]; exact HX.out
          · exact HL.out j (by omega), hown, (HB.out.alloc hsz _).trans hB2⟩
        case measure => simp [intOf]; omega
      · obtain ⟨y, hy⟩ : ∃ y, l.getD k 0 = y := ⟨_, rfl⟩
        have HY : Hid (l.getD k 0 = y) := hy
        rw [hy] at hx hcell
        clear hy
        have hsz := HB.out.size
        obtain ⟨hc1, hc2⟩ := HC.out
        by_cases hxe : y = x
        · have hat := Plan.lay_at x l k (by omega) HL.out (fun _ => by rw [HY.out]; exact hx)
          rw [HY.out, if_pos ⟨by omega, hxe⟩] at hat
          have HAT : Hid (Plan.lay l x = l.take k ++ [x] ++ l.drop (k + 1)) := hat
          clear hat
          subst hxe
          have hZ2 : Hid (∀ w2, Below w.heap.size (wr.alloc (.cells #[.int .i64 y] 3)) w2 → Zr w2 (some ⟨b, off + (k + 1), none⟩) (n - (k + 1)) (l.drop (k + 1))) := fun w2 h2 => (HZ.out.below ((HB.out.alloc hsz _).trans h2)).drop (by omega)
          by_cases hck : c = k + 1
          · have e0 : n - (k + 1) = 0 := by omega
            have e1 : n = k + 1 := by omega
            subst hck
            subst e1
            go_wp2_with (first
              | (at_builtin; refine wpList_append_z rfl (.tmp 42) (.tmp 44) rfl w.heap.size u5 (l.take k) rfl (owns_below HO.out (fresh _ _)) (by simp; omega) _ 1 _ [y] rfl (zr_one wr y) (fun e => by cases e) (by omega) (l.take k ++ [y]) rfl ?_; intro v' w2 hown hB2)
              | (at_builtin; refine wpList_append_z rfl (.tmp 46) (.tmp 49) rfl w.heap.size v' (l.take k ++ [y]) rfl hown (by have := hB2.size; simp at this; omega) _ 0 _ (l.drop (k + 1)) rfl (zr_zero (by rw [List.length_drop]; omega)) (fun e => by cases e) (by rw [List.length_append, hln2]; simp; omega) _ HAT.out.symm ?_; intro v3 w3 hown3 hB3))
            go_ret
            exact ⟨_, rfl, hown3, ((HB.out.alloc hsz _).trans hB2).trans hB3⟩
          · have hck' : ¬ c - (k + 1) = 0 := by omega
            go_wp2_with (first
              | (at_builtin; refine wpList_append_z rfl (.tmp 42) (.tmp 44) rfl w.heap.size u5 (l.take k) rfl (owns_below HO.out (fresh _ _)) (by simp; omega) _ 1 _ [y] rfl (zr_one wr y) (fun e => by cases e) (by omega) (l.take k ++ [y]) rfl ?_; intro v' w2 hown hB2)
              | (at_builtin; refine wpList_append_z rfl (.tmp 46) (.tmp 49) rfl w.heap.size v' (l.take k ++ [y]) rfl hown (by have := hB2.size; simp at this; omega) _ (n - (k + 1)) _ (l.drop (k + 1)) rfl (hZ2.out w2 hB2) (fun e => by cases e) (by rw [List.length_append, hln2]; simp; omega) _ HAT.out.symm ?_; intro v3 w3 hown3 hB3))
            go_ret
            exact ⟨_, rfl, hown3, ((HB.out.alloc hsz _).trans hB2).trans hB3⟩
        · have hxe' : (y == x) = false := by simpa using hxe
          have hat := Plan.lay_at x l k (by omega) HL.out (fun _ => by rw [HY.out]; exact hx)
          rw [HY.out, if_neg (fun e => hxe e.2)] at hat
          have HAT : Hid (Plan.lay l x = l.take k ++ [x] ++ l.drop k) := hat
          clear hat
          have hZ2 : Hid (∀ w2, Below w.heap.size (wr.alloc (.cells #[.int .i64 x] 3)) w2 → Zr w2 (some ⟨b, off + k, none⟩) (n - k) (l.drop k)) := fun w2 h2 => (HZ.out.below ((HB.out.alloc hsz _).trans h2)).drop (by omega)
          go_wp2_with (first
            | (at_builtin; refine wpList_append_z rfl (.tmp 42) (.tmp 44) rfl w.heap.size u5 (l.take k) rfl (owns_below HO.out (fresh _ _)) (by simp; omega) _ 1 _ [x] rfl (zr_one wr x) (fun e => by cases e) (by omega) (l.take k ++ [x]) rfl ?_; intro v' w2 hown hB2)
            | (at_builtin; refine wpList_append_z rfl (.tmp 46) (.tmp 49) rfl w.heap.size v' (l.take k ++ [x]) rfl hown (by have := hB2.size; simp at this; omega) _ (n - k) _ (l.drop k) rfl (hZ2.out w2 hB2) (fun e => by cases e) (by rw [List.length_append, hln2]; simp; omega) _ HAT.out.symm ?_; intro v3 w3 hown3 hB3))
          go_ret
          exact ⟨_, rfl, hown3, ((HB.out.alloc hsz _).trans hB2).trans hB3⟩
    · obtain rfl : k = n := by omega
      have hat := Plan.lay_at x l k (by omega) HL.out (fun h => by omega)
      rw [if_neg (by omega)] at hat
      have HAT : Hid (Plan.lay l x = l.take k ++ [x] ++ l.drop k) := hat
      have hsz := HB.out.size
      obtain ⟨hc1, hc2⟩ := HC.out
      have hd0 : (l.drop k).length = 0 := by rw [List.length_drop]; omega
      clear hat
      cases a with
      | none =>
        obtain rfl : c = 0 := hnil rfl
        obtain rfl : k = 0 := by omega
        go_wp2_with (first
          | (at_builtin; refine wpList_append_z rfl (.tmp 42) (.tmp 44) rfl w.heap.size u5 (l.take 0) rfl (owns_below HO.out (fresh _ _)) (by simp; omega) _ 1 _ [x] rfl (zr_one wr x) (fun e => by cases e) (by simp) (l.take 0 ++ [x]) rfl ?_; intro v' w2 hown hB2)
          | (at_builtin; refine wpList_append_z rfl (.tmp 46) (.tmp 49) rfl w.heap.size v' (l.take 0 ++ [x]) rfl hown (by have := hB2.size; simp at this; omega) _ 0 _ (l.drop 0) rfl (zr_zero hd0) (fun _ => ⟨rfl, rfl⟩) (by simp) _ HAT.out.symm ?_; intro v3 w3 hown3 hB3))
        go_ret
        exact ⟨_, rfl, hown3, ((HB.out.alloc hsz _).trans hB2).trans hB3⟩
      | some ad =>
        by_cases hck : c = k
        · subst hck
          go_wp2_with (first
            | (at_builtin; refine wpList_append_z rfl (.tmp 42) (.tmp 44) rfl w.heap.size u5 (l.take c) rfl (owns_below HO.out (fresh _ _)) (by simp; omega) _ 1 _ [x] rfl (zr_one wr x) (fun e => by cases e) (by omega) (l.take c ++ [x]) rfl ?_; intro v' w2 hown hB2)
            | (at_builtin; refine wpList_append_z rfl (.tmp 46) (.tmp 49) rfl w.heap.size v' (l.take c ++ [x]) rfl hown (by have := hB2.size; simp at this; omega) _ 0 _ (l.drop c) rfl (zr_zero hd0) (fun e => by cases e) (by rw [List.length_append, hln2]; simp; omega) _ HAT.out.symm ?_; intro v3 w3 hown3 hB3))
          go_ret
          exact ⟨_, rfl, hown3, ((HB.out.alloc hsz _).trans hB2).trans hB3⟩
        · have hck' : ¬ c - k = 0 := by omega
          go_wp2_with (first
            | (at_builtin; refine wpList_append_z rfl (.tmp 42) (.tmp 44) rfl w.heap.size u5 (l.take k) rfl (owns_below HO.out (fresh _ _)) (by simp; omega) _ 1 _ [x] rfl (zr_one wr x) (fun e => by cases e) (by omega) (l.take k ++ [x]) rfl ?_; intro v' w2 hown hB2)
            | (at_builtin; refine wpList_append_z rfl (.tmp 46) (.tmp 49) rfl w.heap.size v' (l.take k ++ [x]) rfl hown (by have := hB2.size; simp at this; omega) _ 0 _ (l.drop k) rfl (zr_zero hd0) (fun e => by cases e) (by rw [List.length_append, hln2]; simp; omega) _ HAT.out.symm ?_; intro v3 w3 hown3 hB3))
          go_ret
          exact ⟨_, rfl, hown3, ((HB.out.alloc hsz _).trans hB2).trans hB3⟩
end Go.Proofs.Ytphaaolnmbadcaa
