/-
  The document's own host (package shunterref15): New, Waits on the call's own. Conditions: none but that the host is such.
-/
import Derived.Test.YtfldhjeeoaplfaaHostMath
import Derived.Test.YtfldhjeeoaplfaaOwns
import Derived.Test.YtfldhjeeoaplfaaSince2
namespace Go.Proofs.Ytfldhjeeoaplfaa
open Go.ChangeShapes Go.WideShapes Go.ChangeAt Go.RowKit
set_option linter.unusedVariables false

/-- block r holds the document's host: n lanes, q packets in each; L waits, G came -/
structure HIn (w : World) (F : Nat → Prop) (r n q : Nat) (L G : List Pk) (a : Option Addr) (cap : Nat) (b : Option Addr) (capb : Nat) : Prop where
  foot : ∀ k, F k → k < w.heap.size
  self : F r
  c0 : w.cell? ⟨r, 0, none⟩ = some (.int .i64 n)
  c1 : w.cell? ⟨r, 1, none⟩ = some (.int .i64 q)
  c2 : w.cell? ⟨r, 2, none⟩ = some (.slice a L.length cap)
  c3 : w.cell? ⟨r, 3, none⟩ = some (.slice b G.length capb)
  f2 : w.frozen? ⟨r, 2, none⟩ = false
  f3 : w.frozen? ⟨r, 3, none⟩ = false
  rowL : w.ownsRow 0 27 4 (.slice a L.length cap) L.length (kcells L)
  rowG : w.ownsRow 0 27 4 (.slice b G.length capb) G.length (kcells G)
  headL : ∀ ad, a = some ad → F ad.block ∧ ad.block ≠ r
  headG : ∀ ad, b = some ad → F ad.block ∧ ad.block ≠ r
  apart : ∀ x y, a = some x → b = some y → x.block ≠ y.block
  fit : Hst.Fits n q L
def HAt (w : World) (F : Nat → Prop) (r n q : Nat) (L G : List Pk) : Prop := ∃ a cap b capb, HIn w F r n q L G a cap b capb
theorem HIn.sans {w w' : World} {F E : Nat → Prop} {r n q : Nat} {L G : List Pk} {a b : Option Addr} {cap capb : Nat} (h : HIn w F r n q L G a cap b capb) (k : Sans E w w') (hd : ∀ k, F k → ¬ E k) : HIn w' F r n q L G a cap b capb := by
  have hr := h.foot r h.self
  have hn := hd r h.self
  exact ⟨fun j hj => Nat.lt_of_lt_of_le (h.foot j hj) k.size, h.self, (k.cell (p := ⟨r, 0, none⟩) hr hn).trans h.c0, (k.cell (p := ⟨r, 1, none⟩) hr hn).trans h.c1, (k.cell (p := ⟨r, 2, none⟩) hr hn).trans h.c2, (k.cell (p := ⟨r, 3, none⟩) hr hn).trans h.c3, (k.frozen (p := ⟨r, 2, none⟩) hr hn).trans h.f2, (k.frozen (p := ⟨r, 3, none⟩) hr hn).trans h.f3,
    owns_lift h.rowL k (fun ad e => hd _ (h.headL ad e).1), owns_lift h.rowG k (fun ad e => hd _ (h.headG ad e).1), h.headL, h.headG, h.apart, h.fit⟩
theorem HIn.below {w w' : World} {F : Nat → Prop} {r n q : Nat} {L G : List Pk} {a b : Option Addr} {cap capb : Nat} (h : HIn w F r n q L G a cap b capb) (k : Below w.heap.size w w') : HIn w' F r n q L G a cap b capb :=
  h.sans (E := fun _ => False) (Sans.of_below k) (fun _ _ e => e)
theorem HAt.sans {w w' : World} {F E : Nat → Prop} {r n q : Nat} {L G : List Pk} (h : HAt w F r n q L G) (k : Sans E w w') (hd : ∀ k, F k → ¬ E k) : HAt w' F r n q L G := by
  obtain ⟨a, cap, b, capb, h⟩ := h
  exact ⟨a, cap, b, capb, h.sans k hd⟩
theorem HAt.below {w w' : World} {F : Nat → Prop} {r n q : Nat} {L G : List Pk} (h : HAt w F r n q L G) (k : Below w.heap.size w w') : HAt w' F r n q L G := by
  obtain ⟨a, cap, b, capb, h⟩ := h
  exact ⟨a, cap, b, capb, h.below k⟩
theorem HAt.foot {w : World} {F : Nat → Prop} {r n q : Nat} {L G : List Pk} (h : HAt w F r n q L G) : ∀ k, F k → k < w.heap.size := by
  obtain ⟨a, cap, b, capb, h⟩ := h
  exact h.foot
theorem HAt.fit {w : World} {F : Nat → Prop} {r n q : Nat} {L G : List Pk} (h : HAt w F r n q L G) : Hst.Fits n q L := by
  obtain ⟨a, cap, b, capb, h⟩ := h
  exact h.fit
set_option maxHeartbeats 1000000 in
theorem rhNew_yes (n q : Nat) (h1 : 1 ≤ n ∧ n ≤ 3) (h2 : 1 ≤ q ∧ q ≤ 8) (w : World) :
    Calls Try.prog 14 #[.int .i64 n, .int .i64 q] w fun e w' => ∃ r F, e = .returned (.pointer (some ⟨r, 0, none⟩)) ∧ HAt w' F r n q [] [] ∧ Below w.heap.size w w' ∧ ∀ k, F k → w.heap.size ≤ k := by
  have a1 : ¬ (n : Int) < 1 := by omega
  have a2 : ¬ (3 : Int) < n := by omega
  have a3 : ¬ (q : Int) < 1 := by omega
  have a4 : ¬ (8 : Int) < q := by omega
  go_enter Try.func14, Try.ntmps14
  go_wp2_with fail
  go_ret
  have X : HAt (w.alloc (.cells #[.int .i64 n, .int .i64 q, .slice none 0 0, .slice none 0 0] 48)) (fun k => k = w.heap.size) w.heap.size n q [] [] :=
    ⟨none, 0, none, 0, ⟨fun k e => by rw [e]; simp, rfl, by simp, by simp, by simp, by simp, by simp, by simp, World.ownsRow_nil _ _ _ _, World.ownsRow_nil _ _ _ _, fun ad e => (by cases e), fun ad e => (by cases e), fun x y e => (by cases e), Hst.Fits.nil h1 h2⟩⟩
  first | exact ⟨w.heap.size, fun k => k = w.heap.size, rfl, X, fresh _ _, fun k e => Nat.le_of_eq e.symm⟩ | exact ⟨w.heap.size, rfl, fun k => k = w.heap.size, X, fresh _ _, fun k e => Nat.le_of_eq e.symm⟩
set_option maxHeartbeats 1000000 in
theorem rhNew_no (a b : Int) (h : ¬ ((1 ≤ a ∧ a ≤ 3) ∧ 1 ≤ b ∧ b ≤ 8)) (w : World) :
    Calls Try.prog 14 #[.int .i64 a, .int .i64 b] w fun e w' => e = .returned (.pointer none) ∧ w' = w := by
  have HH : Hid (¬ ((1 ≤ a ∧ a ≤ 3) ∧ 1 ≤ b ∧ b ≤ 8)) := h
  clear h
  by_cases h1 : a < 1
  · go_enter Try.func14, Try.ntmps14
    go_wp2_with fail
    go_ret
    exact ⟨rfl, rfl⟩
  · by_cases h2 : 3 < a
    · go_enter Try.func14, Try.ntmps14
      go_wp2_with fail
      go_ret
      exact ⟨rfl, rfl⟩
    · by_cases h3 : b < 1
      · go_enter Try.func14, Try.ntmps14
        go_wp2_with fail
        go_ret
        exact ⟨rfl, rfl⟩
      · have h4 : 8 < b := by have := HH.out; omega
        go_enter Try.func14, Try.ntmps14
        go_wp2_with fail
        go_ret
        exact ⟨rfl, rfl⟩
theorem take_pk {L : List Pk} {k : Nat} {x : Pk} (h : L[k]? = some x) : L.take (k + 1) = L.take k ++ [x] := by
  rw [List.take_add_one, h]; rfl
section
variable {w : World} {F : Nat → Prop} {r n q : Nat} {L G : List Pk}
theorem HIn.at {a b : Option Addr} {cap capb : Nat} (h : HIn w F r n q L G a cap b capb) {j : Nat} {x : Pk} (hj : L[j]? = some x) : ∃ g, a = some ⟨g, 0, none⟩ ∧ g < w.heap.size ∧ PkAt w g (j * 4) x := PRow.at (base := 0) (len := L.length) (cap := cap) h.rowL hj
set_option maxHeartbeats 2000000 in
set_option maxRecDepth 100000 in
theorem rhWaits_any (h : HAt w F r n q L G) (z : Int) {c : Nat} (hc : (Hst.lane L z).length = c) :
    Calls Try.prog 21 #[.pointer (some ⟨r, 0, none⟩), .int .i64 z] w fun e w' => e = .returned (.int .i64 c) ∧ w' = w := by
  obtain ⟨a, cap, b, capb, h⟩ := h
  have HH : Hid (HIn w F r n q L G a cap b capb) := h
  have HC : Hid ((Hst.lane L z).length = c) := hc
  have hl24 := h.fit.len
  obtain ⟨m, hm⟩ : ∃ m, L.length = m := ⟨_, rfl⟩
  have HL : Hid (L.length = m) := hm
  have c2 := h.c2
  rw [hm] at c2 hl24
  clear h hc hm
  go_enter Try.func21, Try.ntmps21
  go_wp2_with fail
  go_loopw [5, 6] (fun u i wr => ∃ (k t : Nat), k ≤ m ∧ i = .int .i64 k ∧ u = .int .i64 t ∧ t ≤ k ∧ (Hst.lane (L.take k) z).length = t ∧ wr = w) (fun _ i _ => m - (intOf i).toNat)
  case atStart => exact ⟨0, 0, Nat.zero_le _, rfl, rfl, Nat.le_refl _, rfl, rfl⟩
  case round =>
    obtain ⟨k, t, hk, rfl, rfl, htk, hlt, rfl⟩ := hrel
    have HT : Hid ((Hst.lane (L.take k) z).length = t) := hlt
    clear hlt
    by_cases hkm : k < m
    · have hkI : (k : Int) < (m : Int) := by omega
      obtain ⟨x, hx⟩ : ∃ x, L[k]? = some x := ⟨_, List.getElem?_eq_getElem (by have := HL.out; omega)⟩
      obtain ⟨g, ea, hgl, _, _, p2, _⟩ := HH.out.at hx
      subst ea
      have HX : Hid (L[k]? = some x) := hx
      obtain ⟨y, hy⟩ : ∃ y, x.l = y := ⟨_, rfl⟩
      have HY : Hid (x.l = y) := hy
      rw [hy] at p2
      clear hx hy
      by_cases hyz : y = z
      · have g1 : (y == z) = true := by simpa using hyz
        have HN : Hid ((Hst.lane (L.take (k + 1)) z).length = t + 1) := by
          show _ = _
          rw [take_pk HX.out, ← hyz, ← HY.out, Hst.lane_snoc_at, List.length_append, HY.out, hyz, HT.out]
          rfl
        clear hyz
        go_wp2_with fail
        go_roundw
        case rel => first | exact ⟨k + 1, t + 1, by omega, by go_num, by go_num, by omega, HN.out, rfl⟩ | exact ⟨k + 1, t + 1, by omega, by go_num, by go_num, by omega, HN.out, trivial⟩ | ((repeat apply Exists.intro); exact ⟨⟨k + 1, t + 1, by omega, by go_num, by go_num, by omega, HN.out, rfl⟩, rfl⟩)
        case measure => simp [intOf]; omega
      · have g1 : (y == z) = false := by simpa using hyz
        have HN : Hid ((Hst.lane (L.take (k + 1)) z).length = t) := by
          show _ = _
          rw [take_pk HX.out, Hst.lane_snoc_not _ (by rw [HY.out]; exact hyz), HT.out]
        clear hyz
        go_wp2_with fail
        go_roundw
        case rel => first | exact ⟨k + 1, t, by omega, by go_num, rfl, by omega, HN.out, rfl⟩ | exact ⟨k + 1, t, by omega, by go_num, rfl, by omega, HN.out, trivial⟩ | ((repeat apply Exists.intro); exact ⟨⟨k + 1, t, by omega, by go_num, rfl, by omega, HN.out, rfl⟩, rfl⟩)
        case measure => simp [intOf]; omega
    · obtain rfl : k = m := by omega
      have e : t = c := by
        have h1 := HT.out
        rw [List.take_of_length_le (by have := HL.out; omega), HC.out] at h1
        exact h1.symm
      subst e
      go_wp2_with fail
      go_ret
      exact ⟨rfl, rfl⟩
end
end Go.Proofs.Ytfldhjeeoaplfaa
