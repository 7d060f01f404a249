/-
  The laws' helper tells (package shunterlaw14): all calls of a plan come to what the document's own come to. Conditions: that package route comes to what RouteSpec says.
-/
import Derived.Test.YtphaaolnmbadcaaRouteKnown
import Derived.Deep.RegionHeld3
namespace Go.Proofs.Ytphaaolnmbadcaa
open Go.ChangeShapes Go.WideShapes Go.ChangeAt Go.RowKit
set_option linter.unusedVariables false

theorem Bxd.conj {w' : World} {b : Nat} {p : PV} (h : Bxd w' b p) : w'.cell? ⟨b, 0, none⟩ = some (Value.int .i64 p.nodes) ∧ w'.cell? ⟨b, 1, none⟩ = some (Value.slice p.ea p.en p.ec) ∧ w'.cell? ⟨b, 2, none⟩ = some (Value.int .i64 p.lanes) ∧ w'.cell? ⟨b, 3, none⟩ = some (Value.int .i64 p.room) ∧ w'.cell? ⟨b, 4, none⟩ = some (Value.int .i64 p.queue) ∧ w'.cell? ⟨b, 5, none⟩ = some (Value.int .i64 p.rounds) ∧ w'.cell? ⟨b, 6, none⟩ = some (Value.int .i64 p.every) ∧ w'.cell? ⟨b, 7, none⟩ = some (Value.int .i64 p.bag) ∧ w'.cell? ⟨b, 8, none⟩ = some (Value.slice p.wa p.wn p.wc) ∧ w'.cell? ⟨b, 9, none⟩ = some (Value.int .u16 p.start) ∧ w'.cell? ⟨b, 10, none⟩ = some (Value.slice p.na p.nn p.nc) := ⟨h.c0, h.c1, h.c2, h.c3, h.c4, h.c5, h.c6, h.c7, h.c8, h.c9, h.c10⟩
namespace Route
theorem CheckIs.ex (b : Bool) (N : Int) (es : List (Int × Int)) (rs : List (List Int)) : ∃ z, CheckIs b N es rs z ∧ 0 ≤ z ∧ z ≤ 140 := by
  cases b with
  | false => exact ⟨120, .inl ⟨rfl, rfl⟩, by omega, by omega⟩
  | true =>
    by_cases h : Bad N es rs
    · exact ⟨140, .inr (.inl ⟨rfl, h, rfl⟩), by omega, by omega⟩
    · exact ⟨0, .inr (.inr ⟨rfl, h, rfl⟩), by omega, by omega⟩
end Route
section
variable {w : World} {p : PV} {es : List (Int × Int)} {ws : List Int} {rs : List (List Int)} {b : Bool}
theorem RouteSpec.check' (S : RouteSpec) (h : PlN w p es ws rs) (hb : Plan.may p.num es ws (rs.map List.length) = b) (z : Int) (hz : Route.CheckIs b p.nodes es rs z) :
    Calls Try.prog 11 #[p.val] w fun e w' => e = .returned (.int .u16 z) ∧ Below w.heap.size w w' := by
  refine (S.check h hb).mono ?_
  rintro e w' ⟨y, rfl, hy, hB⟩
  obtain rfl := hy.same hz
  exact ⟨rfl, hB⟩
theorem rroutes_is (h : PlN w p es ws rs) (hb : Plan.may p.num es ws (rs.map List.length) = b) (z : Int) (hz : Route.CheckIs b p.nodes es rs z) :
    Calls Try.prog 30 #[p.val] w fun e w' => e = .returned (.int .i64 z) ∧ Below w.heap.size w w' := by
  refine (rroutes_any h hb).mono ?_
  rintro e w' ⟨y, rfl, hy, hB⟩
  obtain rfl := hy.same hz
  exact ⟨rfl, hB⟩
theorem RouteSpec.path' (S : RouteSpec) (h : PlN w p es ws rs) (hb : Plan.may p.num es ws (rs.map List.length) = b) (v u : Int) (hv : I64 v) (hu : I64 u) (l : List Int) (hl : Route.pathOf b p.nodes es rs v u = l) (k : Nat) (hk : l.length = k) :
    Calls Try.prog 12 #[p.val, .int .i64 v, .int .i64 u] w fun e w' => ∃ a c, e = .returned (.slice a k c) ∧ Zr w' a k l ∧ Below w.heap.size w w' := by
  subst hl hk
  refine (S.path h hb v u hv hu).mono ?_
  rintro e w' ⟨a, c, rfl, hz, _, _, hB⟩
  exact ⟨a, c, rfl, hz, hB⟩
theorem rroute_is (h : PlN w p es ws rs) (hb : Plan.may p.num es ws (rs.map List.length) = b) (v u : Int) (l : List Int) (hl : Route.pathOf b p.nodes es rs v u = l) (k : Nat) (hk : l.length = k) :
    Calls Try.prog 31 #[p.val, .int .i64 v, .int .i64 u] w fun e w' => ∃ a c, e = .returned (.slice a k c) ∧ Zr w' a k l ∧ Below w.heap.size w w' := by
  subst hl hk
  refine (rroute_any h hb v u).mono ?_
  rintro e w' ⟨x, rfl, ho, hB⟩
  obtain ⟨a, c, rfl, hz, _⟩ := zr_of_owns ho
  exact ⟨a, c, rfl, hz, hB⟩
theorem RouteSpec.waits' (S : RouteSpec) (h : PlN w p es ws rs) (hb : Plan.may p.num es ws (rs.map List.length) = b) (W : List (List Int)) (hW : Route.waitsOf b p.nodes es rs = W) (n : Nat) (hn : W.length = n) :
    Calls Try.prog 13 #[p.val] w fun e w' => ∃ a c, e = .returned (.slice a n c) ∧ Mr w' a n W ∧ Below w.heap.size w w' := by
  subst hW hn
  exact S.waits h hb
theorem rwaits_is (h : PlN w p es ws rs) (hb : Plan.may p.num es ws (rs.map List.length) = b) (W : List (List Int)) (hW : Route.waitsOf b p.nodes es rs = W) (n : Nat) (hn : W.length = n) :
    Calls Try.prog 29 #[p.val] w fun e w' => ∃ a c, e = .returned (.slice a n c) ∧ Mr w' a n W ∧ Below w.heap.size w w' := by
  subst hW hn
  refine (rwaits_any h hb).mono ?_
  rintro e w' ⟨x, vs, rfl, hR, hB⟩
  obtain ⟨a, c, rfl, hm, _⟩ := mr_of_rb hR
  exact ⟨a, c, rfl, hm, hB⟩
end
set_option maxHeartbeats 8000000 in
set_option maxRecDepth 100000 in
theorem rtells_any (S : RouteSpec) {w : World} {p : PV} {es : List (Int × Int)} {ws : List Int} {rs : List (List Int)} (h : PlN w p es ws rs) (v u : Int) (hv : I64 v) (hu : I64 u) :
    Calls Try.prog 15 #[p.val, .int .i64 v, .int .i64 u] w fun e w' => e = .returned (.bool true) ∧ Below w.heap.size w w' := by
  have HP : Hid (PlN w p es ws rs) := h
  obtain ⟨bb, hbb⟩ : ∃ b, Plan.may p.num es ws (rs.map List.length) = b := ⟨_, rfl⟩
  have HMb : Hid (Plan.may p.num es ws (rs.map List.length) = bb) := hbb
  obtain ⟨W, hW⟩ : ∃ W, Route.waitsOf bb p.nodes es rs = W := ⟨_, rfl⟩
  have HW : Hid (Route.waitsOf bb p.nodes es rs = W) := hW
  obtain ⟨n, hn⟩ : ∃ n, W.length = n := ⟨_, rfl⟩
  have HN : Hid (W.length = n) := hn
  have hn36 : n ≤ 36 := by
    rw [← hn, ← hW]
    unfold Route.waitsOf
    split
    · rename_i hb1
      subst hb1
      obtain ⟨N, hm⟩ := may_n hbb
      rw [Route.rowsOf_len, hm.nodes]
      exact hops_few es hm.two.2
    · simp
  obtain ⟨z, hz, hz0, hz1⟩ := Route.CheckIs.ex bb p.nodes es rs
  have HZ : Hid (Route.CheckIs bb p.nodes es rs z) := hz
  have hwz : IntKind.i64.wrap z = z := by simp only [IntKind.wrap_i64]; omega
  obtain ⟨l, hl⟩ : ∃ l, Route.pathOf bb p.nodes es rs v u = l := ⟨_, rfl⟩
  have Hl : Hid (Route.pathOf bb p.nodes es rs v u = l) := hl
  obtain ⟨m, hmm⟩ : ∃ m, l.length = m := ⟨_, rfl⟩
  have Hm : Hid (l.length = m) := hmm
  have hm : m ≤ 6 := by
    rw [← hmm, ← hl]
    unfold Route.pathOf
    split
    · rename_i hb1
      simp only [Bool.and_eq_true] at hb1
      obtain ⟨⟨hb1, _⟩, _⟩ := hb1
      subst hb1
      obtain ⟨N, hm⟩ := may_n hbb
      have h1 := Route.go_len es rs u (p.nodes.toNat - 1) v
      have h2 := hm.nodes
      have h3 := hm.two
      omega
    · simp
  clear h hbb hW hn hz hl hmm
  unfold PV.val
  go_enter Try.func15, Try.ntmps15
  go_wp2_with (first
    | (go_at_call 29; refine (rwaits_is HP1.out HMb.out W HW.out n HN.out).mono ?_; rintro e w2 ⟨a2, cap2, rfl, hz2, hB2⟩; have HP2 : Hid (PlN w2 p es ws rs) := HP1.out.below hB2; have HX2 : Hid (Bxd w2 w.heap.size p) := HX1.out.below hB2; have HB2 : Hid (Below w.heap.size w w2) := later HB1.out hB2; have HA2 : Hid (Mr w2 a1 n W) := HA1.out.below hB2; have HC2 : Hid (Mr w2 a2 n W) := hz2; clear hz2 hB2 x0 x1 x2 x3 x4 x5 x6 x7 x8 x9 x10)
    | (go_at_call 13; refine (RouteSpec.waits' S (HP.out.below (fresh _ _)) HMb.out W HW.out n HN.out).mono ?_; rintro e w1 ⟨a1, cap1, rfl, hz1, hB1⟩; have HP1 : Hid (PlN w1 p es ws rs) := (HP.out.below (fresh _ _)).below hB1; have HX1 : Hid (Bxd w1 w.heap.size p) := (bxd_new w p).below hB1; have HB1 : Hid (Below w.heap.size w w1) := later (fresh _ _) hB1; have HA1 : Hid (Mr w1 a1 n W) := hz1; obtain ⟨x0, x1, x2, x3, x4, x5, x6, x7, x8, x9, x10⟩ := HX1.out; clear hz1 hB1))
  obtain ⟨HPd, HXd, HBd, HAd, HCd⟩ : Hid (PlN w2.drew p es ws rs) ∧ Hid (Bxd w2.drew w.heap.size p) ∧ Hid (Below w.heap.size w w2.drew) ∧ Hid (Mr w2.drew a1 n W) ∧ Hid (Mr w2.drew a2 n W) := by
    have hd : Below w2.heap.size w2 w2.drew := (Below.refl _ _).drew
    exact ⟨HP2.out.below hd, HX2.out.below hd, later HB2.out hd, HA2.out.below hd, HC2.out.below hd⟩
  have hmI : (m : Int) ≤ 6 := by omega
  go_region_held3 (fun w' => w'.cell? ⟨w.heap.size, 0, none⟩ = some (Value.int .i64 p.nodes) ∧ w'.cell? ⟨w.heap.size, 1, none⟩ = some (Value.slice p.ea p.en p.ec) ∧ w'.cell? ⟨w.heap.size, 2, none⟩ = some (Value.int .i64 p.lanes) ∧ w'.cell? ⟨w.heap.size, 3, none⟩ = some (Value.int .i64 p.room) ∧ w'.cell? ⟨w.heap.size, 4, none⟩ = some (Value.int .i64 p.queue) ∧ w'.cell? ⟨w.heap.size, 5, none⟩ = some (Value.int .i64 p.rounds) ∧ w'.cell? ⟨w.heap.size, 6, none⟩ = some (Value.int .i64 p.every) ∧ w'.cell? ⟨w.heap.size, 7, none⟩ = some (Value.int .i64 p.bag) ∧ w'.cell? ⟨w.heap.size, 8, none⟩ = some (Value.slice p.wa p.wn p.wc) ∧ w'.cell? ⟨w.heap.size, 9, none⟩ = some (Value.int .u16 p.start) ∧ w'.cell? ⟨w.heap.size, 10, none⟩ = some (Value.slice p.na p.nn p.nc)) (first | exact HX7.out.conj | exact HX6.out.conj | exact HX5.out.conj | exact HX4.out.conj | exact HX3.out.conj | exact HXd.out.conj | exact HX2.out.conj) (first | (go_at_call 18; refine (wsame_any HE6.out HF6.out (by omega)).mono ?_; rintro e w7 ⟨rfl, hB7⟩; have HX7 : Hid (Bxd w7 w.heap.size p) := HX6.out.below hB7; have HB7 : Hid (Below w.heap.size w w7) := later HB6.out hB7; have HA7 : Hid (Mr w7 a1 n W) := HA6.out.below hB7; have HC7 : Hid (Mr w7 a2 n W) := HC6.out.below hB7; clear hB7) | (go_at_call 31; refine (rroute_is HP5.out HMb.out v u l Hl.out m Hm.out).mono ?_; rintro e w6 ⟨a6, c6, rfl, hz6, hB6⟩; have HP6 : Hid (PlN w6 p es ws rs) := HP5.out.below hB6; have HX6 : Hid (Bxd w6 w.heap.size p) := HX5.out.below hB6; have HB6 : Hid (Below w.heap.size w w6) := later HB5.out hB6; have HA6 : Hid (Mr w6 a1 n W) := HA5.out.below hB6; have HC6 : Hid (Mr w6 a2 n W) := HC5.out.below hB6; have HE6 : Hid (Zr w6 a5 m l) := HE5.out.below hB6; have HF6 : Hid (Zr w6 a6 m l) := hz6; clear hB6 hz6) | (go_at_call 12; refine (RouteSpec.path' S HP4.out HMb.out v u hv hu l Hl.out m Hm.out).mono ?_; rintro e w5 ⟨a5, c5, rfl, hz5, hB5⟩; have HP5 : Hid (PlN w5 p es ws rs) := HP4.out.below hB5; have HX5 : Hid (Bxd w5 w.heap.size p) := HX4.out.below hB5; have HB5 : Hid (Below w.heap.size w w5) := later HB4.out hB5; have HA5 : Hid (Mr w5 a1 n W) := HA4.out.below hB5; have HC5 : Hid (Mr w5 a2 n W) := HC4.out.below hB5; have HE5 : Hid (Zr w5 a5 m l) := hz5; clear hB5 hz5) | (go_at_call 30; refine (rroutes_is HP3.out HMb.out z HZ.out).mono ?_; rintro e w4 ⟨rfl, hB4⟩; have HP4 : Hid (PlN w4 p es ws rs) := HP3.out.below hB4; have HX4 : Hid (Bxd w4 w.heap.size p) := HX3.out.below hB4; have HB4 : Hid (Below w.heap.size w w4) := later HB3.out hB4; have HA4 : Hid (Mr w4 a1 n W) := HA3.out.below hB4; have HC4 : Hid (Mr w4 a2 n W) := HC3.out.below hB4; clear hB4) | (go_at_call 11; refine (RouteSpec.check' S HPd.out HMb.out z HZ.out).mono ?_; rintro e w3 ⟨rfl, hB3⟩; have HP3 : Hid (PlN w3 p es ws rs) := HPd.out.below hB3; have HX3 : Hid (Bxd w3 w.heap.size p) := HXd.out.below hB3; have HB3 : Hid (Below w.heap.size w w3) := later HBd.out hB3; have HA3 : Hid (Mr w3 a1 n W) := HAd.out.below hB3; have HC3 : Hid (Mr w3 a2 n W) := HCd.out.below hB3; clear hB3))
  go_wp2_with fail
  go_loopw [9] (fun i wr => ∃ k : Nat, k ≤ n ∧ i = .int .i64 k ∧ Below w7.heap.size w7 wr) (fun i _ => n - (intOf i).toNat)
  case atStart => exact ⟨0, Nat.zero_le _, rfl, Below.refl _ _⟩
  case round =>
    obtain ⟨k, hk, rfl, hB⟩ := hrel
    have HBr : Hid (Below w7.heap.size w7 wr) := hB
    clear hB
    by_cases hkn : k < n
    · have hkI : (k : Int) < (n : Int) := by omega
      obtain ⟨b1, o1, r1, rc1, e1, c1, z1, _⟩ := (HA7.out.below HBr.out).at hkn
      obtain ⟨b2, o2, r2, rc2, e2, c2, z2, _⟩ := (HC7.out.below HBr.out).at hkn
      subst e1
      subst e2
      obtain ⟨rw_, hrw⟩ : ∃ r, W.getD k [] = r := ⟨_, rfl⟩
      have HRl : Hid (rw_.length ≤ 36) := by
        show _ ≤ _
        rw [← hrw, ← HW.out]
        unfold Route.waitsOf
        split
        · rename_i hb1
          subst hb1
          obtain ⟨N, hmN⟩ := may_n HMb.out
          have hnn := HN.out
          rw [← HW.out] at hnn
          unfold Route.waitsOf at hnn
          rw [if_pos rfl, Route.rowsOf_len] at hnn
          rw [Route.rowsOf_at (by omega)]
          exact Nat.le_trans (Route.row_len _ _ _ _) (by omega)
        · simp
      rw [hrw] at c1 c2 z1 z2
      have HSm : Hid (∀ q : Since wr, Calls Try.prog 18 #[.slice r1 rw_.length rc1, .slice r2 rw_.length rc2] q.w fun e w' => e = .returned (.bool true) ∧ Below q.w.heap.size q.w w') := fun q => wsame_any (z1.below q.h) (z2.below q.h) (by have := HRl.out; omega)
      have hne := Since.any wr
      have d0 := fun q : Since wr => q.cell c1
      have d1 := fun q : Since wr => q.cell c2
      clear c1 c2 z1 z2 hrw
      go_wp2_with fail
      refine region_since (u := wr) (by kernel_rfl) (by kernel_rfl) (Below.refl _ _) ?_
      repeat (go_big_quiet_step (first | (go_at_call 18; exact Since.calls _ (HSm.out _))))
      refine wpQuiet_nil ?_
      intro _ hw'
      obtain ⟨nq, hw2⟩ := hw'
      subst hw2
      have HBq : Hid (Below w7.heap.size w7 nq.w) := HBr.out.trans (nq.h.mono HBr.out.size)
      clear hne d0 d1
      go_wp2_with fail
      go_roundw
      case rel => first | exact ⟨k + 1, by omega, by go_num, HBq.out⟩ | ((repeat apply Exists.intro); exact ⟨⟨k + 1, by omega, by go_num, HBq.out⟩, rfl⟩)
      case measure => simp [intOf]; omega
    · obtain rfl : k = n := by omega
      go_wp2_with fail
      go_ret
      exact ⟨rfl, later HB7.out HBr.out⟩
end Go.Proofs.Ytphaaolnmbadcaa
