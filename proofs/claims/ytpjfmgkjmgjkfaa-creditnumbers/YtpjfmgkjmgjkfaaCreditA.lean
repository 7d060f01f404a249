/-
  Package credit, as it landed: what each of its functions comes to, over a sender of the caller's own, and the helper known of package shunterlaw05. Conditions: none but that the sender is one, and its numbers are below 2^63.
-/
import Derived.Test.YtpjfmgkjmgjkfaaWiden
import Derived.BigQuiet
namespace Go.Proofs.Ytpjfmgkjmgjkfaa
open Go.ChangeShapes Go.WideShapes Go.ChangeAt Go.RowKit
set_option linter.unusedVariables false

theorem drewN_below (w : World) (n : Nat) : Below w.heap.size w (w.drewN n) := ⟨rfl, rfl, rfl, Nat.le_refl _, fun _ _ => rfl⟩
/-- block p holds a sender: s were sent, up to l may be -/
structure Snd (w : World) (p : Nat) (s l : Int) : Prop where
  c0 : w.cell? ⟨p, 0, none⟩ = some (.int .u64 s)
  c1 : w.cell? ⟨p, 1, none⟩ = some (.int .u64 l)
  f0 : w.frozen? ⟨p, 0, none⟩ = false
  f1 : w.frozen? ⟨p, 1, none⟩ = false
  s0 : 0 ≤ s
  sl : s ≤ l
  l8 : l ≤ s + 8
theorem Snd.below {w w' : World} {p : Nat} {s l : Int} (h : Snd w p s l) (k : Below w.heap.size w w') : Snd w' p s l := by
  have hp : p < w.heap.size := cell_lt h.c0
  exact ⟨(k.cell (p := ⟨p, 0, none⟩) hp).trans h.c0, (k.cell (p := ⟨p, 1, none⟩) hp).trans h.c1, (k.frozen (p := ⟨p, 0, none⟩) hp).trans h.f0, (k.frozen (p := ⟨p, 1, none⟩) hp).trans h.f1, h.s0, h.sl, h.l8⟩
/-- the call's own sender, new since w0: what was there then is as it was -/
def Mine (w0 w : World) (p : Nat) (s l : Int) : Prop := Snd w p s l ∧ w0.heap.size ≤ p ∧ Below w0.heap.size w0 w
theorem Mine.on {w0 w w' : World} {p : Nat} {s l : Int} (h : Mine w0 w p s l) (k : Below w.heap.size w w') : Mine w0 w' p s l :=
  ⟨h.1.below k, h.2.1, later h.2.2 k⟩
theorem Mine.below {w0 w : World} {p : Nat} {s l : Int} (h : Mine w0 w p s l) : Below w0.heap.size w0 w := h.2.2

set_option maxHeartbeats 400000 in
theorem new_good (s r : Int) (hs : 0 ≤ s ∧ s < 4611686018427387904) (hr : 1 ≤ r ∧ r ≤ 8) (w0 w : World) (hb : Below w0.heap.size w0 w) :
    Calls Try.prog 9 #[.int .u64 s, .int .i64 r] w fun e w' => ∃ p, e = .returned (.pointer (some ⟨p, 0, none⟩)) ∧ Mine w0 w' p s (s + r) := by
  have h1 : ¬ 4611686018427387904 ≤ s := by omega
  have h2 : ¬ r < 1 := by omega
  have h3 : ¬ 8 < r := by omega
  have HB : Hid (Below w0.heap.size w0 w) := hb
  clear hb
  go_enter Try.func9, Try.ntmps9
  go_wp2
  go_ret
  refine ⟨w.heap.size, rfl, ⟨by simp, ?_, by simp, by simp, by omega, by omega, by omega⟩, HB.out.size, later HB.out (fresh _ _)⟩
  simp
theorem new_bad (s r : Int) (hs : 0 ≤ s ∧ s ≤ 18446744073709551615) (hr : -9223372036854775808 ≤ r ∧ r ≤ 9223372036854775807) (h : 4611686018427387904 ≤ s ∨ r < 1 ∨ 8 < r) (w : World) :
    Calls Try.prog 9 #[.int .u64 s, .int .i64 r] w fun e w' => e = .returned (.pointer none) ∧ w' = w := by
  by_cases h1 : 4611686018427387904 ≤ s
  · go_enter Try.func9, Try.ntmps9
    go_wp2
    go_ret
    exact ⟨rfl, rfl⟩
  · by_cases h2 : r < 1
    · go_enter Try.func9, Try.ntmps9
      go_wp2
      go_ret
      exact ⟨rfl, rfl⟩
    · have h3 : 8 < r := by omega
      go_enter Try.func9, Try.ntmps9
      go_wp2
      go_ret
      exact ⟨rfl, rfl⟩
theorem sent_any {w0 w : World} {p : Nat} {s l : Int} (h : Mine w0 w p s l) :
    Calls Try.prog 11 #[.pointer (some ⟨p, 0, none⟩)] w fun e w' => e = .returned (.int .u64 s) ∧ w' = w := by
  have hc0 := h.1.c0
  clear h
  go_enter Try.func11, Try.ntmps11
  go_wp2
  go_ret
  exact ⟨rfl, rfl⟩
theorem limit_any {w0 w : World} {p : Nat} {s l : Int} (h : Mine w0 w p s l) :
    Calls Try.prog 13 #[.pointer (some ⟨p, 0, none⟩)] w fun e w' => e = .returned (.int .u64 l) ∧ w' = w := by
  have hc1 := h.1.c1
  clear h
  go_enter Try.func13, Try.ntmps13
  go_wp2
  go_ret
  exact ⟨rfl, rfl⟩
set_option maxHeartbeats 400000 in
theorem left_any {w : World} {p : Nat} {s l : Int} (h : Snd w p s l) :
    Calls Try.prog 16 #[.pointer (some ⟨p, 0, none⟩)] w fun e w' => e = .returned (.int .u64 (l - s)) ∧ ∃ n, w' = w.drewN n := by
  have hc0 := h.c0
  have hc1 := h.c1
  have HR : Hid (0 ≤ s ∧ s ≤ l ∧ l ≤ s + 8) := ⟨h.s0, h.sl, h.l8⟩
  clear h
  go_enter Try.func16, Try.ntmps16
  go_wp2_with fail
  go_quiet (fail)
  go_wp2_with fail
  go_ret
  exact ⟨ret_int (by have := HR.out; rw [IntKind.wrap_u64]; omega), nq, rfl⟩
theorem cell_set {w : World} {p i j : Nat} {u v : Value} (hc : w.cell? ⟨p, i, none⟩ = some v) (hij : i ≠ j) : (w.setCell ⟨p, j, none⟩ u).cell? ⟨p, i, none⟩ = some v := by
  rw [World.cell?_setCell_other]
  · exact hc
  · simp
    try omega
theorem Mine.sentOn {w0 w : World} {p : Nat} {s l : Int} (h : Mine w0 w p s l) (t : Int) (h1 : s ≤ t) (h2 : t ≤ l) : Mine w0 (w.setCell ⟨p, 0, none⟩ (.int .u64 t)) p t l := by
  obtain ⟨hs, hp, hb⟩ := h
  have := hs.s0; have := hs.l8
  refine ⟨⟨World.cell?_setCell_same _ _ _ hs.c0, cell_set hs.c1 (by omega), ?_, ?_, by omega, by omega, by omega⟩, hp, hb.setCell (p := ⟨p, 0, none⟩) hp _⟩
  · rw [World.frozen?_setCell]; exact hs.f0
  · rw [World.frozen?_setCell]; exact hs.f1
theorem Mine.limitOn {w0 w : World} {p : Nat} {s l : Int} (h : Mine w0 w p s l) (t : Int) (h1 : l ≤ t) (h2 : t ≤ s + 8) : Mine w0 (w.setCell ⟨p, 1, none⟩ (.int .u64 t)) p s t := by
  obtain ⟨hs, hp, hb⟩ := h
  have := hs.s0; have := hs.sl
  refine ⟨⟨cell_set hs.c0 (by omega), World.cell?_setCell_same _ _ _ hs.c1, ?_, ?_, by omega, by omega, by omega⟩, hp, hb.setCell (p := ⟨p, 1, none⟩) hp _⟩
  · rw [World.frozen?_setCell]; exact hs.f0
  · rw [World.frozen?_setCell]; exact hs.f1
set_option maxHeartbeats 400000 in
theorem usable_any {w0 w : World} {p : Nat} {s l : Int} (h : Mine w0 w p s l) (u : Int) (hu : l - s = u) :
    Calls Try.prog 12 #[.pointer (some ⟨p, 0, none⟩)] w fun e w' => e = .returned (.int .i64 u) ∧ Mine w0 w' p s l := by
  have HM : Hid (Mine w0 w p s l) := h
  have hc0 := h.1.c0
  have HR : Hid (0 ≤ s ∧ s ≤ l ∧ l ≤ s + 8) := ⟨h.1.s0, h.1.sl, h.1.l8⟩
  have hr : 0 ≤ u ∧ u ≤ 8 := by have := HR.out; omega
  clear h
  go_enter Try.func12, Try.ntmps12
  go_wp2_with fail
  refine (left_any HM.out.1).mono ?_
  rintro e w1 ⟨rfl, n, rfl⟩
  rw [hu]
  go_wp2_with fail
  go_ret
  exact ⟨ret_int (by first | rfl | (rw [IntKind.wrap_i64]; omega)), HM.out.on (drewN_below _ _)⟩
set_option maxHeartbeats 400000 in
theorem next_none {w0 w : World} {p : Nat} {s l : Int} (h : Mine w0 w p s l) (hu : l = s) :
    Calls Try.prog 15 #[.pointer (some ⟨p, 0, none⟩)] w fun e w' => e = .returned (.tuple #[.int .u64 0, .bool false]) ∧ Mine w0 w' p s l := by
  have HM : Hid (Mine w0 w p s l) := h
  have hc0 := h.1.c0
  have hu0 : l - s = 0 := by omega
  clear h hu
  go_enter Try.func15, Try.ntmps15
  go_wp2_with fail
  refine (left_any HM.out.1).mono ?_
  rintro e w1 ⟨rfl, n, rfl⟩
  rw [hu0]
  go_wp2_with fail
  go_ret2
  exact ⟨rfl, HM.out.on (drewN_below _ _)⟩
set_option maxHeartbeats 400000 in
theorem next_some {w0 w : World} {p : Nat} {s l : Int} (h : Mine w0 w p s l) (hu : l ≠ s) (hb : s ≤ 9223372036854775807) :
    Calls Try.prog 15 #[.pointer (some ⟨p, 0, none⟩)] w fun e w' => e = .returned (.tuple #[.int .u64 s, .bool true]) ∧ Mine w0 w' p (s + 1) l := by
  have HM : Hid (Mine w0 w p s l) := h
  have HR : Hid (0 ≤ s ∧ s ≤ l ∧ l ≤ s + 8 ∧ l ≠ s) := ⟨h.1.s0, h.1.sl, h.1.l8, hu⟩
  have hc0 := h.1.c0
  obtain ⟨u, hu1⟩ : ∃ u, l - s = u := ⟨_, rfl⟩
  have hu2 : (u == 0) = false := by have := HR.out; simp; omega
  have hs0 := h.1.s0
  clear h hu
  go_enter Try.func15, Try.ntmps15
  go_wp2_with fail
  refine (left_any HM.out.1).mono ?_
  rintro e w1 ⟨rfl, n, rfl⟩
  rw [hu1]
  have HM1 : Hid (Mine w0 (w.drewN n) p s l) := HM.out.on (drewN_below _ _)
  obtain ⟨w1, hw1⟩ : ∃ w1, w.drewN n = w1 := ⟨_, rfl⟩
  rw [hw1] at HM1 ⊢
  have c0 := HM1.out.1.c0
  have f0 := HM1.out.1.f0
  clear hw1 hc0 HM
  go_wp2_with fail
  go_ret2
  refine ⟨rfl, ?_⟩
  have e1 : IntKind.u64.wrap (s + 1) = s + 1 := by rw [IntKind.wrap_u64]; omega
  first | exact HM1.out.sentOn (s + 1) (by omega) (by have := HR.out; omega) | (rw [e1]; exact HM1.out.sentOn (s + 1) (by omega) (by have := HR.out; omega))
set_option maxHeartbeats 400000 in
theorem mayEnd_any {w : World} {p : Nat} {s l : Int} (h : Snd w p s l) (n : Int) (h0 : 0 ≤ n) (h1 : n ≤ 18446744073709551615) (hs : s ≤ 9223372036854775807) (b : Bool) (hb : decide (l < n ∧ n ≤ s + 8) = b) :
    Calls Try.prog 18 #[.pointer (some ⟨p, 0, none⟩), .int .u64 n] w fun e w' => e = .returned (.bool b) ∧ w' = w := by
  have hc0 := h.c0
  have hc1 := h.c1
  have hs0 := h.s0
  clear h
  by_cases hl : l < n
  · go_enter Try.func18, Try.ntmps18
    go_wp2_with fail
    go_ret
    refine ⟨ret_bool ?_, rfl⟩
    rw [← hb]
    by_cases h8 : n ≤ s + 8
    · simp [hl, h8]
    · simp [h8]
  · go_enter Try.func18, Try.ntmps18
    go_wp2_with fail
    go_ret
    refine ⟨ret_bool ?_, rfl⟩
    rw [← hb]
    exact (decide_eq_false (fun h => absurd h.1 (by omega))).symm
set_option maxHeartbeats 400000 in
theorem hear_no {w0 w : World} {p : Nat} {s l : Int} (h : Mine w0 w p s l) (x : Int) (hx : 0 ≤ x ∧ x ≤ 65535) (hs : s ≤ 9223372036854775807) (hn : ¬ (l < widI l x ∧ widI l x ≤ s + 8)) :
    Calls Try.prog 14 #[.pointer (some ⟨p, 0, none⟩), .int .u16 x] w fun e w' => e = .returned (.bool false) ∧ Mine w0 w' p s l := by
  have HM : Hid (Mine w0 w p s l) := h
  have HR : Hid (0 ≤ s ∧ s ≤ l ∧ l ≤ s + 8) := ⟨h.1.s0, h.1.sl, h.1.l8⟩
  have hc0 := h.1.c0
  have hc1 := h.1.c1
  obtain ⟨v, hv⟩ : ∃ v, widI l x = v := ⟨_, rfl⟩
  have hvr := widI_range l x
  rw [hv] at hvr hn
  have HN : Hid (decide (l < v ∧ v ≤ s + 8) = false) := decide_eq_false hn
  clear h hn
  go_enter Try.func14, Try.ntmps14
  go_wp2_with fail
  refine (widen_any l x (by have := HR.out; omega) (by have := HR.out; omega) hx.1 hx.2 _).mono ?_
  rintro e w1 ⟨rfl, rfl⟩
  rw [hv]
  go_wp2_with fail
  refine (mayEnd_any HM.out.1 v hvr.1 hvr.2 hs false HN.out).mono ?_
  rintro e w1 ⟨rfl, rfl⟩
  go_wp2_with fail
  go_ret
  exact ⟨rfl, HM.out⟩
set_option maxHeartbeats 400000 in
theorem hear_yes {w0 w : World} {p : Nat} {s l : Int} (h : Mine w0 w p s l) (x : Int) (hx : 0 ≤ x ∧ x ≤ 65535) (hs : s ≤ 9223372036854775807) (v : Int) (hv : widI l x = v) (hn : l < v ∧ v ≤ s + 8) :
    Calls Try.prog 14 #[.pointer (some ⟨p, 0, none⟩), .int .u16 x] w fun e w' => e = .returned (.bool true) ∧ Mine w0 w' p s v := by
  have HM : Hid (Mine w0 w p s l) := h
  have HR : Hid (0 ≤ s ∧ s ≤ l ∧ l ≤ s + 8) := ⟨h.1.s0, h.1.sl, h.1.l8⟩
  have hc0 := h.1.c0
  have hc1 := h.1.c1
  have hf1 := h.1.f1
  have hvr := widI_range l x
  rw [hv] at hvr
  have HN : Hid (decide (l < v ∧ v ≤ s + 8) = true) := decide_eq_true hn
  have HV : Hid (l < v ∧ v ≤ s + 8) := hn
  clear h hn
  go_enter Try.func14, Try.ntmps14
  go_wp2_with fail
  refine (widen_any l x (by have := HR.out; omega) (by have := HR.out; omega) hx.1 hx.2 _).mono ?_
  rintro e w1 ⟨rfl, rfl⟩
  rw [hv]
  go_wp2_with fail
  refine (mayEnd_any HM.out.1 v hvr.1 hvr.2 hs true HN.out).mono ?_
  rintro e w1 ⟨rfl, rfl⟩
  go_wp2_with fail
  go_ret
  exact ⟨rfl, HM.out.limitOn v (by have := HV.out; omega) (by have := HV.out; omega)⟩
set_option maxRecDepth 100000 in
set_option maxHeartbeats 1000000 in
theorem known_any (w : World) : Calls Try.prog 10 #[] w fun e w' => e = .returned (.bool true) ∧ Below w.heap.size w w' := by
  go_enter Try.func10, Try.ntmps10
  go_wp2_with fail
  refine (new_good 65534 2 (by omega) (by omega) w w (Below.refl _ _)).mono ?_
  rintro e w1 ⟨p, rfl, h1⟩
  have H1 : Hid (Mine w w1 p 65534 65536) := h1
  clear h1
  go_wp2_with fail
  refine (next_some H1.out (by omega) (by omega)).mono ?_
  rintro e w2 ⟨rfl, h2⟩
  have H2 : Hid (Mine w w2 p 65535 65536) := h2
  clear h2 H1
  go_wp2_with fail
  refine (next_some H2.out (by omega) (by omega)).mono ?_
  rintro e w3 ⟨rfl, h3⟩
  have H3 : Hid (Mine w w3 p 65536 65536) := h3
  clear h3 H2
  go_wp2_with fail
  refine (next_none H3.out rfl).mono ?_
  rintro e w4 ⟨rfl, h4⟩
  have H4 : Hid (Mine w w4 p 65536 65536) := h4
  clear h4 H3
  go_wp2_with fail
  refine (hear_yes H4.out 1 (by omega) (by omega) 65537 (by decide) (by omega)).mono ?_
  rintro e w5 ⟨rfl, h5⟩
  have H5 : Hid (Mine w w5 p 65536 65537) := h5
  clear h5 H4
  go_wp2_with fail
  refine (usable_any H5.out 1 (by omega)).mono ?_
  rintro e w6 ⟨rfl, h6⟩
  have H6 : Hid (Mine w w6 p 65536 65537) := h6
  clear h6 H5
  go_wp2_with fail
  refine (hear_no H6.out 65535 (by omega) (by omega) (by decide)).mono ?_
  rintro e w7 ⟨rfl, h7⟩
  have H7 : Hid (Mine w w7 p 65536 65537) := h7
  clear h7 H6
  go_wp2_with fail
  refine (new_bad 0 0 (by omega) (by omega) (by omega) _).mono ?_
  rintro e w8 ⟨rfl, rfl⟩
  go_wp2_with fail
  go_ret
  exact ⟨rfl, H7.out.below⟩
end Go.Proofs.Ytpjfmgkjmgjkfaa
