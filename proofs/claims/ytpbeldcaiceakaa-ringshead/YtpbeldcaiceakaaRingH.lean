/-
  Package rings, as it landed: Push, over rings whose memory is their own. Conditions: none but that the rings are such.
-/
import Derived.Test.YtpbeldcaiceakaaRingG
import Derived.Test.YtpbeldcaiceakaaSince2
namespace Go.Proofs.Ytpbeldcaiceakaa
open Go.ChangeShapes Go.WideShapes Go.ChangeAt Go.RowKit
set_option linter.unusedVariables false

/-- how many there are, and which, when one more is pushed (b: it is taken) -/
def pushT (b : Bool) (t : Nat) : Nat := if b then t + 1 else t
def pushQ (b : Bool) (Qs : Pl → List Pk) (q : Pl) (x : Pk) : Pl → List Pk := if b then upd Qs q (Qs q ++ [x]) else Qs
section
variable {w : World} {F : Nat → Prop} {p P L n t c : Nat} {Qs : Pl → List Pk}
set_option maxHeartbeats 1000000 in
set_option maxRecDepth 100000 in
theorem push_out (h : RAt w F p P L n t c Qs) (i o l : Int) (hq : Wf (i, o, l)) (hin : ¬ inside P L (i, o, l)) (x : Pk) :
    Calls Try.prog 12 #[.pointer (some ⟨p, 0, none⟩), .int .i64 i, .int .i64 o, .int .i64 l, .agg #[.int .i64 x.s, .int .i64 x.d, .int .i64 x.l, .int .u32 x.b]] w fun e w' => e = .returned (.bool false) ∧ Below w.heap.size w w' := by
  obtain ⟨G, pp, mb, S, E, V, sl, h, _⟩ := h
  obtain ⟨W, hW⟩ : ∃ W, W = (w.alloc (.cells #[.int .i64 x.s, .int .i64 x.d, .int .i64 x.l, .int .u32 x.b] 27)).alloc (.cells #[.int .i64 i, .int .i64 o, .int .i64 l] 51) := ⟨_, rfl⟩
  have bel : Below w.heap.size w W := by rw [hW]; exact later (fresh _ _) (fresh _ _)
  have h2 := h.below bel
  have hc0 := h2.c0
  have hc1 := h2.c1
  have hc2 := h2.c2
  have hx0 : W.cell? ⟨w.heap.size, 0, none⟩ = some (.int .i64 x.s) := by rw [hW]; simp
  have hx1 : W.cell? ⟨w.heap.size, 1, none⟩ = some (.int .i64 x.d) := by rw [hW]; simp
  have hx2 : W.cell? ⟨w.heap.size, 2, none⟩ = some (.int .i64 x.l) := by rw [hW]; simp
  have hx3 : W.cell? ⟨w.heap.size, 3, none⟩ = some (.int .u32 x.b) := by rw [hW]; simp
  have hb0 : W.cell? ⟨w.heap.size + 1, 0, none⟩ = some (.int .i64 i) := by rw [hW]; simp
  have hb1 : W.cell? ⟨w.heap.size + 1, 1, none⟩ = some (.int .i64 o) := by rw [hW]; simp
  have hb2 : W.cell? ⟨w.heap.size + 1, 2, none⟩ = some (.int .i64 l) := by rw [hW]; simp
  have HB : Hid (Below w.heap.size w W) := bel
  have HI : Hid (¬ inside P L (i, o, l)) := hin
  clear h h2 bel hin
  go_enter Try.func12, Try.ntmps12
  go_wp2_with fail
  rw [← hW]
  clear hW
  have hne := Since.any W
  have z0 := fun n : Since W => n.cell hc0
  have z1 := fun n : Since W => n.cell hc1
  have z2 := fun n : Since W => n.cell hc2
  have z3 := fun n : Since W => n.cell hb0
  have z4 := fun n : Since W => n.cell hb1
  have z5 := fun n : Since W => n.cell hb2
  refine region_since (u := W) (by kernel_rfl) (by kernel_rfl) (Below.refl _ _) ?_
  repeat (go_big_quiet_step ((go_at_call 23; exact Since.calls _ (within_no P L i o l HI.out _))))
  refine wpQuiet_nil ?_
  intro _ hw'
  obtain ⟨nq, hw''⟩ := hw'
  subst hw''
  go_wp2_with fail
  go_ret
  exact ⟨rfl, later HB.out nq.h⟩
/-- the rings' ends, a packet in its box, a place in its box -/
def Box10 (w : World) (p P L b : Nat) (x : Pk) (i o l : Int) : Prop :=
  w.cell? ⟨p, 0, none⟩ = some (.int .i64 P) ∧ w.cell? ⟨p, 1, none⟩ = some (.int .i64 P) ∧ w.cell? ⟨p, 2, none⟩ = some (.int .i64 L) ∧ w.cell? ⟨b, 0, none⟩ = some (.int .i64 x.s) ∧ w.cell? ⟨b, 1, none⟩ = some (.int .i64 x.d) ∧ w.cell? ⟨b, 2, none⟩ = some (.int .i64 x.l) ∧ w.cell? ⟨b, 3, none⟩ = some (.int .u32 x.b) ∧
    w.cell? ⟨b + 1, 0, none⟩ = some (.int .i64 i) ∧ w.cell? ⟨b + 1, 1, none⟩ = some (.int .i64 o) ∧ w.cell? ⟨b + 1, 2, none⟩ = some (.int .i64 l)
theorem Box10.sans {H : Nat → Prop} {w w' : World} {p P L b : Nat} {x : Pk} {i o l : Int} (h : Box10 w p P L b x i o l) (k : Sans H w w') (hp : ¬ H p) (hb : ¬ H b) (hb1 : ¬ H (b + 1)) : Box10 w' p P L b x i o l := by
  obtain ⟨h0, h1, h2, h3, h4, h5, h6, h7, h8, h9⟩ := h
  exact ⟨(k.cell (p := ⟨p, 0, none⟩) (cell_lt h0) hp).trans h0, (k.cell (p := ⟨p, 1, none⟩) (cell_lt h1) hp).trans h1, (k.cell (p := ⟨p, 2, none⟩) (cell_lt h2) hp).trans h2,
    (k.cell (p := ⟨b, 0, none⟩) (cell_lt h3) hb).trans h3, (k.cell (p := ⟨b, 1, none⟩) (cell_lt h4) hb).trans h4, (k.cell (p := ⟨b, 2, none⟩) (cell_lt h5) hb).trans h5, (k.cell (p := ⟨b, 3, none⟩) (cell_lt h6) hb).trans h6,
    (k.cell (p := ⟨b + 1, 0, none⟩) (cell_lt h7) hb1).trans h7, (k.cell (p := ⟨b + 1, 1, none⟩) (cell_lt h8) hb1).trans h8, (k.cell (p := ⟨b + 1, 2, none⟩) (cell_lt h9) hb1).trans h9⟩
theorem Box10.below {w w' : World} {p P L b : Nat} {x : Pk} {i o l : Int} (h : Box10 w p P L b x i o l) (k : Below w.heap.size w w') : Box10 w' p P L b x i o l := h.sans (H := fun _ => False) (Sans.of_below k) (fun e => e) (fun e => e) (fun e => e)
theorem Box10.boxes {H : Nat → Prop} {w w' : World} {p P L b : Nat} {x : Pk} {i o l : Int} (h : Box10 w p P L b x i o l) (k : Sans H w w') (he : w'.cell? ⟨p, 0, none⟩ = some (.int .i64 P) ∧ w'.cell? ⟨p, 1, none⟩ = some (.int .i64 P) ∧ w'.cell? ⟨p, 2, none⟩ = some (.int .i64 L)) (hb : ¬ H b) (hb1 : ¬ H (b + 1)) : Box10 w' p P L b x i o l := by
  obtain ⟨h0, h1, h2, h3, h4, h5, h6, h7, h8, h9⟩ := h
  exact ⟨he.1, he.2.1, he.2.2,
    (k.cell (p := ⟨b, 0, none⟩) (cell_lt h3) hb).trans h3, (k.cell (p := ⟨b, 1, none⟩) (cell_lt h4) hb).trans h4, (k.cell (p := ⟨b, 2, none⟩) (cell_lt h5) hb).trans h5, (k.cell (p := ⟨b, 3, none⟩) (cell_lt h6) hb).trans h6,
    (k.cell (p := ⟨b + 1, 0, none⟩) (cell_lt h7) hb1).trans h7, (k.cell (p := ⟨b + 1, 1, none⟩) (cell_lt h8) hb1).trans h8, (k.cell (p := ⟨b + 1, 2, none⟩) (cell_lt h9) hb1).trans h9⟩
theorem RAt.ends {w : World} {F : Nat → Prop} {p P L n t c : Nat} {Qs : Pl → List Pk} (h : RAt w F p P L n t c Qs) : w.cell? ⟨p, 0, none⟩ = some (.int .i64 P) ∧ w.cell? ⟨p, 1, none⟩ = some (.int .i64 P) ∧ w.cell? ⟨p, 2, none⟩ = some (.int .i64 L) := by
  obtain ⟨G, pp, mb, S, E, V, sl, h, _⟩ := h
  exact ⟨h.c0, h.c1, h.c2⟩
set_option maxHeartbeats 2000000 in
set_option maxRecDepth 100000 in
theorem push_in (h : RAt w F p P L n t c Qs) (hc : c < 1000) (i o l : Int) (hq : Wf (i, o, l)) (hin : inside P L (i, o, l)) (x : Pk) (b : Bool) (hb : decide (t < n) = b) :
    Calls Try.prog 12 #[.pointer (some ⟨p, 0, none⟩), .int .i64 i, .int .i64 o, .int .i64 l, .agg #[.int .i64 x.s, .int .i64 x.d, .int .i64 x.l, .int .u32 x.b]] w fun e w' => e = .returned (.bool b) ∧ ∃ F', RAt w' F' p P L n (pushT b t) (c + 1) (pushQ b Qs (i, o, l) x) ∧ Grows F w F' w' := by
  have HRA : Hid (RAt w F p P L n t c Qs) := h
  obtain ⟨G, pp, mb, S, E, V, sl, h, hEt, hPL⟩ := h
  obtain ⟨W, hW⟩ : ∃ W, W = (w.alloc (.cells #[.int .i64 x.s, .int .i64 x.d, .int .i64 x.l, .int .u32 x.b] 27)).alloc (.cells #[.int .i64 i, .int .i64 o, .int .i64 l] 51) := ⟨_, rfl⟩
  have bel : Below w.heap.size w W := by rw [hW]; exact later (fresh _ _) (fresh _ _)
  have h2 := h.below bel
  have hc0 := h2.c0
  have hc1 := h2.c1
  have hc2 := h2.c2
  have hx0 : W.cell? ⟨w.heap.size, 0, none⟩ = some (.int .i64 x.s) := by rw [hW]; simp
  have hx1 : W.cell? ⟨w.heap.size, 1, none⟩ = some (.int .i64 x.d) := by rw [hW]; simp
  have hx2 : W.cell? ⟨w.heap.size, 2, none⟩ = some (.int .i64 x.l) := by rw [hW]; simp
  have hx3 : W.cell? ⟨w.heap.size, 3, none⟩ = some (.int .u32 x.b) := by rw [hW]; simp
  have hb0 : W.cell? ⟨w.heap.size + 1, 0, none⟩ = some (.int .i64 i) := by rw [hW]; simp
  have hb1 : W.cell? ⟨w.heap.size + 1, 1, none⟩ = some (.int .i64 o) := by rw [hW]; simp
  have hb2 : W.cell? ⟨w.heap.size + 1, 2, none⟩ = some (.int .i64 l) := by rw [hW]; simp
  have HH : Hid (∀ u : World, Below w.heap.size w u → Calls Try.prog 24 #[.pointer (some ⟨p, 3, none⟩), .agg #[.int .i64 i, .int .i64 o, .int .i64 l], .agg #[.int .i64 x.s, .int .i64 x.d, .int .i64 x.l, .int .u32 x.b]] u fun e w' => e = .returned (.bool b) ∧ ∃ F', RAt w' F' p P L n (pushT b t) (c + 1) (pushQ b Qs (i, o, l) x) ∧ Grows F u F' w') := by
    intro u bu
    by_cases e : E = []
    · subst e
      have : ¬ t < n := by simp at hEt; omega
      rw [decide_eq_false this] at hb
      subst hb
      refine (spush_no (h.below bu) i o l hq x).mono ?_
      rintro e w' ⟨he, hbel⟩
      exact ⟨he, F, ((HRA.out.below bu).below hbel).mono (Nat.le_succ _), grows_below F hbel⟩
    · obtain ⟨E0, k, rfl⟩ := snoc_of e
      have hlen : E0.length + 1 + t = n := by simpa using hEt
      have : t < n := by omega
      rw [decide_eq_true this] at hb
      subst hb
      refine (spush_yes (h.below bu) hc i o l hq x).mono ?_
      rintro e w' ⟨he, F', G', V', sl', hR, hg⟩
      exact ⟨he, F', ⟨G', pp, mb, _, E0, V', sl', hR, by show E0.length + (t + 1) = n; omega, hPL⟩, hg⟩
  have HB : Hid (Below w.heap.size w W) := bel
  have HI : Hid (inside P L (i, o, l)) := hin
  have nF : ∀ j, w.heap.size ≤ j → ¬ F j := fun j hj e => by have := h.foot j e; omega
  have HX : Hid (Box10 W p P L w.heap.size x i o l) := ⟨hc0, hc1, hc2, hx0, hx1, hx2, hx3, hb0, hb1, hb2⟩
  clear h h2 bel hin hb hEt
  go_enter Try.func12, Try.ntmps12
  go_wp2_with fail
  rw [← hW]
  clear hW
  go_region_held3 (fun w' => w'.cell? ⟨p, 0, none⟩ = some (.int .i64 P) ∧ w'.cell? ⟨p, 1, none⟩ = some (.int .i64 P) ∧ w'.cell? ⟨p, 2, none⟩ = some (.int .i64 L) ∧ w'.cell? ⟨w.heap.size, 0, none⟩ = some (.int .i64 x.s) ∧ w'.cell? ⟨w.heap.size, 1, none⟩ = some (.int .i64 x.d) ∧ w'.cell? ⟨w.heap.size, 2, none⟩ = some (.int .i64 x.l) ∧ w'.cell? ⟨w.heap.size, 3, none⟩ = some (.int .u32 x.b) ∧
      w'.cell? ⟨w.heap.size + 1, 0, none⟩ = some (.int .i64 i) ∧ w'.cell? ⟨w.heap.size + 1, 1, none⟩ = some (.int .i64 o) ∧ w'.cell? ⟨w.heap.size + 1, 2, none⟩ = some (.int .i64 l)) (first | exact CK2.out | exact CK1.out | exact HX.out.below (drewN_below W 1))
    (first | (go_at_call 23; refine (within_yes P L i o l HI.out _).mono ?_; rintro e u ⟨rfl, hb⟩; have CK1 : Hid (Box10 u p P L w.heap.size x i o l) := (HX.out.below (drewN_below W 1)).below hb; have HU : Hid (Below w.heap.size w u) := later (later HB.out (drewN_below W 1)) hb; clear hb) | (go_at_call 24; refine (HH.out _ HU.out).mono ?_; rintro e u2 ⟨rfl, F', hR, hg⟩; have CK2 : Hid (Box10 u2 p P L w.heap.size x i o l) := CK1.out.boxes hg.1 hR.ends (nF _ (Nat.le_refl _)) (nF _ (Nat.le_succ _)); have HZ : Hid (RAt u2 F' p P L n (pushT b t) (c + 1) (pushQ b Qs (i, o, l) x) ∧ Grows F u F' u2) := ⟨hR, hg⟩; clear hR hg))
  go_wp2_with fail
  go_ret
  obtain ⟨z1, z2⟩ := HZ.out
  exact ⟨rfl, F', z1, (Sans.of_below HU.out).then z2.1, fun k hk => (z2.2 k hk).imp id (fun e => Nat.le_trans HU.out.size e)⟩
/-- a packet is taken: there is such a queue, and a slot is empty -/
def takes (P L n t : Nat) (q : Pl) : Bool := decide (((0 ≤ q.1 ∧ q.1 < P) ∧ (0 ≤ q.2.1 ∧ q.2.1 < P) ∧ (0 ≤ q.2.2 ∧ q.2.2 < L)) ∧ t < n)
theorem rpush_any (h : RAt w F p P L n t c Qs) (hc : c < 1000) (i o l : Int) (hq : Wf (i, o, l)) (x : Pk) (b : Bool) (hb : takes P L n t (i, o, l) = b) :
    Calls Try.prog 12 #[.pointer (some ⟨p, 0, none⟩), .int .i64 i, .int .i64 o, .int .i64 l, .agg #[.int .i64 x.s, .int .i64 x.d, .int .i64 x.l, .int .u32 x.b]] w fun e w' => e = .returned (.bool b) ∧ ∃ F', RAt w' F' p P L n (pushT b t) (c + 1) (pushQ b Qs (i, o, l) x) ∧ Grows F w F' w' := by
  by_cases hin : ((0 ≤ i ∧ i < P) ∧ (0 ≤ o ∧ o < P) ∧ (0 ≤ l ∧ l < L))
  · refine push_in h hc i o l hq hin x b ?_
    rw [← hb]
    unfold takes
    by_cases ht : t < n
    · rw [decide_eq_true ht, decide_eq_true (show _ ∧ _ from ⟨hin, ht⟩)]
    · rw [decide_eq_false ht, decide_eq_false (fun e => ht e.2)]
  · have hb' : b = false := by
      rw [← hb]
      exact decide_eq_false (fun e => hin e.1)
    subst hb'
    refine (push_out h i o l hq hin x).mono ?_
    rintro e w' ⟨he, hbel⟩
    exact ⟨he, F, (h.below hbel).mono (Nat.le_succ _), grows_below F hbel⟩
end
end Go.Proofs.Ytpbeldcaiceakaa
