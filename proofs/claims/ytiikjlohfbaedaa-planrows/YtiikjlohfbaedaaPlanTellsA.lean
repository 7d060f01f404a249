/-
  The laws' helper tells (package shunterlaw12) over package plan's contracts. Conditions: that package plan comes to what PlanSpec says.
-/
import Derived.Test.YtiikjlohfbaedaaPlanKnown
import Derived.Test.YtiikjlohfbaedaaRefPlanF
namespace Go.Proofs.Ytiikjlohfbaedaa
open Go.ChangeShapes Go.WideShapes Go.ChangeAt Go.RowKit
set_option linter.unusedVariables false

theorem Bxd.conj {w' : World} {b : Nat} {p : PV} (h : Bxd w' b p) : w'.cell? ⟨b, 0, none⟩ = some (Value.int .i64 p.nodes) ∧ w'.cell? ⟨b, 1, none⟩ = some (Value.slice p.ea p.en p.ec) ∧ w'.cell? ⟨b, 2, none⟩ = some (Value.int .i64 p.lanes) ∧ w'.cell? ⟨b, 3, none⟩ = some (Value.int .i64 p.room) ∧ w'.cell? ⟨b, 4, none⟩ = some (Value.int .i64 p.queue) ∧ w'.cell? ⟨b, 5, none⟩ = some (Value.int .i64 p.rounds) ∧ w'.cell? ⟨b, 6, none⟩ = some (Value.int .i64 p.every) ∧ w'.cell? ⟨b, 7, none⟩ = some (Value.int .i64 p.bag) ∧ w'.cell? ⟨b, 8, none⟩ = some (Value.slice p.wa p.wn p.wc) ∧ w'.cell? ⟨b, 9, none⟩ = some (Value.int .u16 p.start) ∧ w'.cell? ⟨b, 10, none⟩ = some (Value.slice p.na p.nn p.nc) :=
  ⟨h.c0, h.c1, h.c2, h.c3, h.c4, h.c5, h.c6, h.c7, h.c8, h.c9, h.c10⟩
section
variable {w : World} {p : PV} {es : List (Int × Int)} {ws : List Int} {ns : List Nat}
theorem rbeside_any' (h : Pl w p es ws ns) (v : Int) (l : List Int) (hl : Plan.bes es v = l) (n : Nat) (hn : l.length = n) :
    Calls Try.prog 26 #[p.val, .int .i64 v] w fun e w' => ∃ a cap, e = .returned (.slice a n cap) ∧ Zr w' a n l ∧ Below w.heap.size w w' := by
  subst hl hn
  refine (rbeside_any h v).mono ?_
  rintro e w' ⟨u, rfl, ho, hB⟩
  obtain ⟨a, cap, rfl, hz, _⟩ := zr_of_owns ho
  exact ⟨a, cap, rfl, hz, hB⟩
theorem rport_any' (h : Pl w p es ws ns) (v u : Int) (z : Int) (hz : Plan.port es v u = z) :
    Calls Try.prog 27 #[p.val, .int .i64 v, .int .i64 u] w fun e w' => e = .returned (.int .i64 z) ∧ Below w.heap.size w w' := by
  subst hz
  exact rport_any h v u
theorem rcheck_any' (h : Pl w p es ws ns) (z : Int) (hz : Plan.errno (Plan.may p.num es ws ns) = z) :
    Calls Try.prog 24 #[p.val] w fun e w' => e = .returned (.int .i64 z) ∧ Below w.heap.size w w' := by
  subst hz
  exact rcheck_any h
end
theorem wrap_small {z : Int} (h0 : 0 ≤ z) (h1 : z ≤ 9223372036854775807) : IntKind.i64.wrap z = z := by rw [IntKind.wrap_i64]; omega
set_option maxHeartbeats 8000000 in
set_option maxRecDepth 100000 in
theorem tells_any (S : PlanSpec) {w : World} {p : PV} {es : List (Int × Int)} {ws : List Int} {ns : List Nat} (h : Pl w p es ws ns) (v u : Int) (hv : I64 v) (hu : I64 u) :
    Calls Try.prog 15 #[p.val, .int .i64 v, .int .i64 u] w fun e w' => e = .returned (.bool true) ∧ Below w.heap.size w w' := by
  have HP : Hid (Pl w p es ws ns) := h
  obtain ⟨L, hL⟩ : ∃ L, Plan.hops p.nodes es = L := ⟨_, rfl⟩
  have HL : Hid (Plan.hops p.nodes es = L) := hL
  obtain ⟨n, hn⟩ : ∃ n, L.length = n := ⟨_, rfl⟩
  have HN : Hid (L.length = n) := hn
  have hn36 : n ≤ 36 := by
    have := Plan.hopsTo_len es (Plan.upto p.nodes)
    have h6 : Plan.upto p.nodes ≤ 6 := by unfold Plan.upto; omega
    rw [← hn, ← hL]
    unfold Plan.hops
    omega
  obtain ⟨z, hz⟩ : ∃ z, Plan.errno (Plan.may p.num es ws ns) = z := ⟨_, rfl⟩
  have HZ : Hid (Plan.errno (Plan.may p.num es ws ns) = z) := hz
  have hz0 : 0 ≤ z ∧ z ≤ 120 := by rw [← hz]; unfold Plan.errno; split <;> omega
  have hwz : IntKind.i64.wrap z = z := wrap_small hz0.1 (by omega)
  obtain ⟨hz0, hz1⟩ := hz0
  obtain ⟨l, hl⟩ : ∃ l, Plan.bes es v = l := ⟨_, rfl⟩
  have Hl : Hid (Plan.bes es v = l) := hl
  obtain ⟨m, hmm⟩ : ∃ m, l.length = m := ⟨_, rfl⟩
  have Hm : Hid (l.length = m) := hmm
  have hm : m ≤ 17592186044416 := by
    have h1 := Plan.bes_len es v
    have h2 := h.eb
    have h3 := h.he.1
    rw [hl, hmm] at h1
    omega
  obtain ⟨y, hy⟩ : ∃ y, Plan.port es v u = y := ⟨_, rfl⟩
  have Hy : Hid (Plan.port es v u = y) := hy
  clear h hL hn hz hl hmm hy
  unfold PV.val
  go_enter Try.func15, Try.ntmps15
  go_wp2_with (first
    | (go_at_call 23; refine (rhops_any HP1.out).mono ?_; rintro e w2 ⟨u2, rfl, hz2, hB2⟩; rw [HL.out] at hz2; obtain ⟨a2, cap2, rfl, hz3, _⟩ := pr_of_owns hz2; rw [HN.out] at hz3; rw [HN.out]; have HP2 : Hid (Pl w2 p es ws ns) := HP1.out.below hB2; have HX2 : Hid (Bxd w2 w.heap.size p) := HX1.out.below hB2; have HB2 : Hid (Below w.heap.size w w2) := later HB1.out hB2; have HA2 : Hid (Pr w2 a1 n L) := HA1.out.below hB2; have HC2 : Hid (Pr w2 a2 n L) := hz3; clear hz2 hz3 hB2 x0 x1 x2 x3 x4 x5 x6 x7 x8 x9 x10)
    | (go_at_call 12; refine (PlanSpec.hops' S (HP.out.below (fresh _ _)) L HL.out n HN.out).mono ?_; rintro e w1 ⟨a1, cap1, rfl, hz1, hB1⟩; have HP1 : Hid (Pl w1 p es ws ns) := (HP.out.below (fresh _ _)).below hB1; have HX1 : Hid (Bxd w1 w.heap.size p) := (bxd_new w p).below hB1; have HB1 : Hid (Below w.heap.size w w1) := later (fresh _ _) hB1; have HA1 : Hid (Pr w1 a1 n L) := hz1; obtain ⟨x0, x1, x2, x3, x4, x5, x6, x7, x8, x9, x10⟩ := HX1.out; clear hz1 hB1))
  obtain ⟨HPd, HXd, HBd, HAd, HCd⟩ : Hid (Pl w2.drew p es ws ns) ∧ Hid (Bxd w2.drew w.heap.size p) ∧ Hid (Below w.heap.size w w2.drew) ∧ Hid (Pr w2.drew a1 n L) ∧ Hid (Pr w2.drew a2 n L) := by
    have hd : Below w2.heap.size w2 w2.drew := (Below.refl _ _).drew
    exact ⟨HP2.out.below hd, HX2.out.below hd, later HB2.out hd, HA2.out.below hd, HC2.out.below hd⟩
  go_region_held3 (fun w' => w'.cell? ⟨w.heap.size, 0, none⟩ = some (Value.int .i64 p.nodes) ∧ w'.cell? ⟨w.heap.size, 1, none⟩ = some (Value.slice p.ea p.en p.ec) ∧ w'.cell? ⟨w.heap.size, 2, none⟩ = some (Value.int .i64 p.lanes) ∧ w'.cell? ⟨w.heap.size, 3, none⟩ = some (Value.int .i64 p.room) ∧ w'.cell? ⟨w.heap.size, 4, none⟩ = some (Value.int .i64 p.queue) ∧ w'.cell? ⟨w.heap.size, 5, none⟩ = some (Value.int .i64 p.rounds) ∧ w'.cell? ⟨w.heap.size, 6, none⟩ = some (Value.int .i64 p.every) ∧ w'.cell? ⟨w.heap.size, 7, none⟩ = some (Value.int .i64 p.bag) ∧ w'.cell? ⟨w.heap.size, 8, none⟩ = some (Value.slice p.wa p.wn p.wc) ∧ w'.cell? ⟨w.heap.size, 9, none⟩ = some (Value.int .u16 p.start) ∧ w'.cell? ⟨w.heap.size, 10, none⟩ = some (Value.slice p.na p.nn p.nc)) (first | exact HX9.out.conj | exact HX8.out.conj | exact HX7.out.conj | exact HX6.out.conj | exact HX5.out.conj | exact HX4.out.conj | exact HX3.out.conj | exact HXd.out.conj | exact HX2.out.conj) (first | (go_at_call 27; refine (rport_any' HP8.out v u y Hy.out).mono ?_; rintro e w9 ⟨rfl, hB9⟩; have HP9 : Hid (Pl w9 p es ws ns) := HP8.out.below hB9; have HX9 : Hid (Bxd w9 w.heap.size p) := HX8.out.below hB9; have HB9 : Hid (Below w.heap.size w w9) := later HB8.out hB9; have HA9 : Hid (Pr w9 a1 n L) := HA8.out.below hB9; have HC9 : Hid (Pr w9 a2 n L) := HC8.out.below hB9; clear hB9) | (go_at_call 13; refine (PlanSpec.port' S HP7.out v u hv hu y Hy.out).mono ?_; rintro e w8 ⟨rfl, hB8⟩; have HP8 : Hid (Pl w8 p es ws ns) := HP7.out.below hB8; have HX8 : Hid (Bxd w8 w.heap.size p) := HX7.out.below hB8; have HB8 : Hid (Below w.heap.size w w8) := later HB7.out hB8; have HA8 : Hid (Pr w8 a1 n L) := HA7.out.below hB8; have HC8 : Hid (Pr w8 a2 n L) := HC7.out.below hB8; clear hB8) | (go_at_call 25; refine (same_any HZ5b.out HZ6.out hm).mono ?_; rintro e w7 ⟨rfl, hB7⟩; have HP7 : Hid (Pl w7 p es ws ns) := HP6.out.below hB7; have HX7 : Hid (Bxd w7 w.heap.size p) := HX6.out.below hB7; have HB7 : Hid (Below w.heap.size w w7) := later HB6.out hB7; have HA7 : Hid (Pr w7 a1 n L) := HA6.out.below hB7; have HC7 : Hid (Pr w7 a2 n L) := HC6.out.below hB7; clear hB7) | (go_at_call 26; refine (rbeside_any' HP5.out v l Hl.out m Hm.out).mono ?_; rintro e w6 ⟨a6, cap6, rfl, hz6, hB6⟩; have HP6 : Hid (Pl w6 p es ws ns) := HP5.out.below hB6; have HX6 : Hid (Bxd w6 w.heap.size p) := HX5.out.below hB6; have HB6 : Hid (Below w.heap.size w w6) := later HB5.out hB6; have HA6 : Hid (Pr w6 a1 n L) := HA5.out.below hB6; have HC6 : Hid (Pr w6 a2 n L) := HC5.out.below hB6; have HZ6 : Hid (Zr w6 a6 m l) := hz6; have HZ5b : Hid (Zr w6 a5 m l) := HZ5.out.below hB6; clear hB6 hz6) | (go_at_call 16; refine (PlanSpec.beside' S HP4.out v hv l Hl.out m Hm.out).mono ?_; rintro e w5 ⟨a5, cap5, rfl, hz5, hB5⟩; have HP5 : Hid (Pl w5 p es ws ns) := HP4.out.below hB5; have HX5 : Hid (Bxd w5 w.heap.size p) := HX4.out.below hB5; have HB5 : Hid (Below w.heap.size w w5) := later HB4.out hB5; have HA5 : Hid (Pr w5 a1 n L) := HA4.out.below hB5; have HC5 : Hid (Pr w5 a2 n L) := HC4.out.below hB5; have HZ5 : Hid (Zr w5 a5 m l) := hz5; clear hB5 hz5) | (go_at_call 24; refine (rcheck_any' HP3.out z HZ.out).mono ?_; rintro e w4 ⟨rfl, hB4⟩; have HP4 : Hid (Pl w4 p es ws ns) := HP3.out.below hB4; have HX4 : Hid (Bxd w4 w.heap.size p) := HX3.out.below hB4; have HB4 : Hid (Below w.heap.size w w4) := later HB3.out hB4; have HA4 : Hid (Pr w4 a1 n L) := HA3.out.below hB4; have HC4 : Hid (Pr w4 a2 n L) := HC3.out.below hB4; clear hB4) | (go_at_call 11; refine (PlanSpec.check' S HPd.out z HZ.out).mono ?_; rintro e w3 ⟨rfl, hB3⟩; have HP3 : Hid (Pl w3 p es ws ns) := HPd.out.below hB3; have HX3 : Hid (Bxd w3 w.heap.size p) := HXd.out.below hB3; have HB3 : Hid (Below w.heap.size w w3) := later HBd.out hB3; have HA3 : Hid (Pr w3 a1 n L) := HAd.out.below hB3; have HC3 : Hid (Pr w3 a2 n L) := HCd.out.below hB3; clear hB3))
  go_wp2_with fail
  go_loopw [9] (fun i wr => ∃ k : Nat, k ≤ n ∧ i = .int .i64 k ∧ Below w9.heap.size w9 wr) (fun i _ => n - (intOf i).toNat)
  case atStart => exact ⟨0, Nat.zero_le _, rfl, Below.refl _ _⟩
  case round =>
    obtain ⟨k, hk, rfl, hB⟩ := hrel
    have HBr : Hid (Below w9.heap.size w9 wr) := hB
    clear hB
    by_cases hkn : k < n
    · obtain ⟨b1, o1, e1, c1, d1⟩ := (HA9.out.below HBr.out).at hkn
      obtain ⟨b2, o2, e2, c2, d2⟩ := (HC9.out.below HBr.out).at hkn
      subst e1
      subst e2
      obtain ⟨⟨A, B⟩, hy⟩ : ∃ y, L.getD k (0, 0) = y := ⟨_, rfl⟩
      rw [hy] at c1 c2 d1 d2
      simp only at c1 c2 d1 d2
      have hneq := fun w => neqH w A B
      have hgd := gdH
      clear hy
      go_wp2_with fail
      go_region
      go_wp2_with fail
      go_roundw
      case rel => first | exact ⟨k + 1, by omega, by go_num, HBr.out.drew⟩ | ((repeat apply Exists.intro); exact ⟨⟨k + 1, by omega, by go_num, HBr.out.drew⟩, rfl⟩)
      case measure => simp [intOf]; omega
    · obtain rfl : k = n := by omega
      go_wp2_with fail
      go_ret
      exact ⟨rfl, later HB9.out HBr.out⟩
end Go.Proofs.Ytiikjlohfbaedaa
