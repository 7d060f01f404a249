/-
  Package shunterlaw10: the chapter's example (known); Run over masks that lie in a row of the call's own. Conditions: that the table of math/bits holds what its initialiser lays.
-/
import Derived.Test.YtlojadodabddpaaDoorIslF
namespace Go.Proofs.YtlojadodabddpaaDoor
open Go.ChangeShapes Go.WideShapes Go.ChangeAt Go.RowKit
set_option linter.unusedVariables false

/-- requests of n ports -/
def reqs (n : Nat) (f : Nat → Nat) : Nat → Nat := fun i => if i < n then f i else 0
theorem reqs_at {n i : Nat} {f : Nat → Nat} (h : i < n) : reqs n f i = f i := by unfold reqs; rw [if_pos h]
/-- behind a run: the arbiter's new turns, and what is matched, in new memory -/
def Ran (w w' : World) (p g a n : Nat) (R G A : Nat → Nat) (K b : Nat) : Prop := w.heap.size ≤ b ∧ Ints w' b n (Isl.run R G A n K) ∧ Arb w' p g a n (Isl.runG R G A n) (Isl.runA R G A n) ∧ Sans (fun j => j = g ∨ j = a) w w'
theorem run_cols {w : World} {p g a n : Nat} {G A : Nat → Nat} (h : Arb w p g a n G A) {q : Nat} {f : Nat → Nat} (hC : Cols w q n f) (h16 : ∀ i, i < n → f i < 65536) (hT : Tab w) (K : Nat) (hK1 : 1 ≤ K) (hK2 : K ≤ 16) :
    Calls Tryd.prog 16 #[.pointer (some ⟨p, 0, none⟩), .slice (some ⟨q, 0, none⟩) n n, .int .i64 (K : Nat)] w fun e w' => ∃ b, e = .returned (.slice (some ⟨b, 0, none⟩) n n) ∧ Ran w w' p g a n (reqs n f) G A K b := by
  have hn : Nums .u16 w (some ⟨q, 0, none⟩) n ((List.range n).map f) := hC.nums h.n2 (by simp) (fun k hk => by simp [List.getD, hk])
  have n2 := h.n2
  refine (run_yes h (some ⟨q, 0, none⟩) n (Nat.le_refl _) (by omega) ((List.range n).map f) (fun x hx => ?_) hn hT K hK1 hK2 (reqs n f) ?_).mono ?_
  · obtain ⟨i, hi, rfl⟩ := List.mem_map.1 hx
    exact h16 i (List.mem_range.1 hi)
  · funext i
    unfold reqs
    rw [List.getD_eq_getElem?_getD]
    by_cases hi : i < n
    · simp [hi]
    · simp [hi]
  · rintro e w' ⟨b, he, h1, h2, h3, h4⟩
    exact ⟨b, he, h1, h2, h3, h4⟩
theorem Ran.below {w w' : World} {p g a n : Nat} {R G A : Nat → Nat} {K b B : Nat} (h : Ran w w' p g a n R G A K b) (hB : B ≤ w.heap.size) (hg : B ≤ g) (ha : B ≤ a) : Below B w w' := h.2.2.2.below hB (fun k e => by omega)
/-- two masks that are built -/
theorem two_cols (w : World) (x y : Nat) : Cols (w.alloc (.cells #[.int .u16 (x : Nat), .int .u16 (y : Nat)] 29)) w.heap.size 2 (fun i => if i = 0 then x else y) := fun k hk => by
  match k with
  | 0 => exact ⟨by simp, by simp⟩
  | 1 => exact ⟨by simp, by simp⟩
  | (k + 2) => omega
def kR : Nat → Nat := reqs 2 (fun i => if i = 0 then 3 else 3)
theorem k1 : Isl.run kR (fun _ => 0) (fun _ => 0) 2 1 0 = 0 ∧ Isl.run kR (fun _ => 0) (fun _ => 0) 2 1 1 = -1 := by decide +kernel
theorem k2 : Isl.run kR (Isl.runG kR (fun _ => 0) (fun _ => 0) 2) (Isl.runA kR (fun _ => 0) (fun _ => 0) 2) 2 2 0 = 1 ∧ Isl.run kR (Isl.runG kR (fun _ => 0) (fun _ => 0) 2) (Isl.runA kR (fun _ => 0) (fun _ => 0) 2) 2 2 1 = 0 := by decide +kernel
theorem new_two (w : World) : Calls Tryd.prog 11 #[.int .i64 2] w fun e w' => ∃ p g a, e = .returned (.pointer (some ⟨p, 0, none⟩)) ∧ Made w w' p g a 2 := new_good 2 (by omega) w
theorem new_none (w : World) : Calls Tryd.prog 11 #[.int .i64 0] w fun e w' => e = .returned (.pointer none) ∧ w' = w := new_bad 0 (by omega) w
theorem run_two {w : World} {p g a : Nat} {G A : Nat → Nat} (h : Arb w p g a 2 G A) (hT : Tab w) (K : Nat) (hK1 : 1 ≤ K) (hK2 : K ≤ 16) :
    Calls Tryd.prog 16 #[.pointer (some ⟨p, 0, none⟩), .slice (some ⟨w.heap.size, 0, none⟩) 2 2, .int .i64 (K : Nat)] (w.alloc (.cells #[.int .u16 3, .int .u16 3] 29)) fun e w' => ∃ b, e = .returned (.slice (some ⟨b, 0, none⟩) 2 2) ∧ Ran w w' p g a 2 kR G A K b := by
  refine (run_cols (h.below (fresh _ _)) (two_cols w 3 3) (fun i hi => by split <;> omega) (hT.below (fresh _ _) hT.lt) K hK1 hK2).mono ?_
  rintro e w' ⟨b, he, h1, h2, h3, h4⟩
  refine ⟨b, he, ?_, h2, h3, (Sans.alloc _ _).then h4⟩
  rw [World.size_alloc] at h1
  omega
theorem beq_self_int (a : Int) : (a == a) = true := by simp
set_option maxRecDepth 100000 in
set_option maxHeartbeats 2000000 in
theorem known_any (w : World) (hT : Tab w) : Calls Tryd.prog 12 #[] w fun e w' => e = .returned (.bool true) ∧ Below w.heap.size w w' := by
  have HT : Hid (Tab w) := hT
  have h0 := hT.lt
  clear hT
  go_enter Tryd.func12, Tryd.ntmps12
  go_wp2_with fail
  refine (new_two w).mono ?_
  rintro e w1 ⟨p, g, a, rfl, hA, hB, h1, h2, h3⟩
  have HA : Hid (Arb w1 p g a 2 (fun _ => 0) (fun _ => 0)) := hA
  have HB : Hid (Below w.heap.size w w1) := hB
  have HT1 : Hid (Tab w1) := HT.out.below hB h0
  have hs1 := hB.size
  have lg := hA.lg
  have la := hA.la
  clear hA hB
  go_wp2_with fail
  refine (run_two HA.out HT1.out 1 (by omega) (by omega)).mono ?_
  rintro e w2 ⟨b, rfl, hR⟩
  have HA2 : Hid (Arb w2 p g a 2 (Isl.runG kR (fun _ => 0) (fun _ => 0) 2) (Isl.runA kR (fun _ => 0) (fun _ => 0) 2)) := hR.2.2.1
  have hb2 : Below w.heap.size w1 w2 := hR.below hs1 (by omega) (by omega)
  have HB2 : Hid (Below w.heap.size w w2) := HB.out.trans hb2
  have HI : Hid (Ints w2 b 2 (Isl.run kR (fun _ => 0) (fun _ => 0) 2 1)) := hR.2.1
  have hb := hR.1
  have HT2 : Hid (Tab w2) := HT.out.below HB2.out h0
  have lb := hR.2.1.lt (by omega)
  have hs2 := hR.2.2.2.size
  clear hR hb2
  go_wp2_with fail
  refine (run_two HA2.out HT2.out 2 (by omega) (by omega)).mono ?_
  rintro e w3 ⟨c, rfl, hR⟩
  have HA3 := hR.2.2.1
  have hb3 : Below w.heap.size w2 w3 := hR.below (by omega) (by omega) (by omega)
  have HB3 : Hid (Below w.heap.size w w3) := HB2.out.trans hb3
  have HI2 : Ints w3 b 2 (Isl.run kR (fun _ => 0) (fun _ => 0) 2 1) := HI.out.sans hR.2.2.2 (by omega)
  have x0 := (HI2 0 (by omega)).1
  have x1 := (HI2 1 (by omega)).1
  have y0 := (hR.2.1 0 (by omega)).1
  have y1 := (hR.2.1 1 (by omega)).1
  rw [k1.1] at x0
  rw [k1.2] at x1
  rw [k2.1] at y0
  rw [k2.2] at y1
  have HA3 : Hid (Arb w3 p g a 2 _ _) := HA3
  clear hR hb3 HI2 HI HA2 HT2 HT1
  go_wp2_with (first | (go_at_call 11; refine (new_none _).mono ?_; rintro e w' ⟨rfl, hq⟩; obtain rfl := hq.symm; clear hq) | (go_at_call 13; refine (grants_any HA3.out).mono ?_; rintro e w4 ⟨d, cd, rfl, _, _, hb4⟩; have HA4 := HA3.out.below hb4) | (go_at_call 14; refine (accepts_any HA4).mono ?_; rintro e w5 ⟨d5, cd5, rfl, _, _, hb5⟩))
  go_ret
  exact ⟨rfl, HB3.out.trans ((hb4.trans (hb5.mono hb4.size)).mono HB3.out.size)⟩
end Go.Proofs.YtlojadodabddpaaDoor
