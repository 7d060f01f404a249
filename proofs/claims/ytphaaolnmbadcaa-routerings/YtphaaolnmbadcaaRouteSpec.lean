/-
  What package route is to come to (contracts, as a structure), and the laws' helper same; plans that choices make, and what their numbers are. Conditions: none but that package route comes to what RouteSpec says.
-/
import Derived.Test.YtphaaolnmbadcaaRefRouteE
import Derived.Test.YtphaaolnmbadcaaPlanMakeN
import Derived.Test.YtphaaolnmbadcaaRouteUpd
namespace Go.Proofs.Ytphaaolnmbadcaa
open Go.ChangeShapes Go.WideShapes Go.ChangeAt Go.RowKit
set_option linter.unusedVariables false

structure RouteSpec : Prop where
  path : ∀ {w : World} {p : PV} {es : List (Int × Int)} {ws : List Int} {rs : List (List Int)}, PlN w p es ws rs → ∀ {b : Bool}, Plan.may p.num es ws (rs.map List.length) = b → ∀ v u : Int, I64 v → I64 u →
    Calls Try.prog 12 #[p.val, .int .i64 v, .int .i64 u] w fun e w' => ∃ a c, e = .returned (.slice a (Route.pathOf b p.nodes es rs v u).length c) ∧ Zr w' a (Route.pathOf b p.nodes es rs v u).length (Route.pathOf b p.nodes es rs v u) ∧ (Route.pathOf b p.nodes es rs v u).length ≤ c ∧ c ≤ maxLen ∧ Below w.heap.size w w'
  waits : ∀ {w : World} {p : PV} {es : List (Int × Int)} {ws : List Int} {rs : List (List Int)}, PlN w p es ws rs → ∀ {b : Bool}, Plan.may p.num es ws (rs.map List.length) = b →
    Calls Try.prog 13 #[p.val] w fun e w' => ∃ a c, e = .returned (.slice a (Route.waitsOf b p.nodes es rs).length c) ∧ Mr w' a (Route.waitsOf b p.nodes es rs).length (Route.waitsOf b p.nodes es rs) ∧ Below w.heap.size w w'
  check : ∀ {w : World} {p : PV} {es : List (Int × Int)} {ws : List Int} {rs : List (List Int)}, PlN w p es ws rs → ∀ {b : Bool}, Plan.may p.num es ws (rs.map List.length) = b →
    Calls Try.prog 11 #[p.val] w fun e w' => ∃ z, e = .returned (.int .u16 z) ∧ Route.CheckIs b p.nodes es rs z ∧ Below w.heap.size w w'
set_option maxHeartbeats 1000000 in
set_option maxRecDepth 100000 in
theorem wsame_any {w : World} {a b : Option Addr} {n c d : Nat} {l : List Int} (h : Zr w a n l) (k : Zr w b n l) (hn : n ≤ 17592186044416) :
    Calls Try.prog 18 #[.slice a n c, .slice b n d] w fun e w' => e = .returned (.bool true) ∧ Below w.heap.size w w' := by
  have HA : Hid (Zr w a n l) := h
  have HB : Hid (Zr w b n l) := k
  clear h k
  go_enter Try.func18, Try.ntmps18
  go_wp2_with fail
  go_loopw [5] (fun i wr => ∃ k : Nat, k ≤ n ∧ i = .int .i64 k ∧ Below w.heap.size w wr) (fun i _ => n - (intOf i).toNat)
  case atStart => exact ⟨0, Nat.zero_le _, rfl, Below.refl _ _⟩
  case round =>
    obtain ⟨k, hk, rfl, hB⟩ := hrel
    have HBw : Hid (Below w.heap.size w wr) := hB
    clear hB
    by_cases hkn : k < n
    · obtain ⟨b1, o1, e1, c1⟩ := (HA.out.below HBw.out).at hkn
      obtain ⟨b2, o2, e2, c2⟩ := (HB.out.below HBw.out).at hkn
      subst e1
      subst e2
      obtain ⟨y, hy⟩ : ∃ y, l.getD k 0 = y := ⟨_, rfl⟩
      rw [hy] at c1 c2
      clear hy
      go_wp2_with fail
      go_region
      go_wp2_with fail
      go_roundw
      case rel => first | exact ⟨k + 1, by omega, by go_num, HBw.out.drew⟩ | ((repeat apply Exists.intro); exact ⟨⟨k + 1, by omega, by go_num, HBw.out.drew⟩, rfl⟩)
      case measure => simp [intOf]; omega
    · obtain rfl : k = n := by omega
      go_wp2_with fail
      go_ret
      exact ⟨rfl, HBw.out⟩
/-- a plan that choices make, and that is the call's own -/
structure MkN (base : Nat) (p : PV) (nodes room more : Nat) (es : List (Int × Int)) (rs : List (List Int)) (w : World) : Prop where
  num : p.num = Plan.mkNum nodes room more
  made : Made base p es (Plan.mkW more (Plan.mkL more)) rs w
theorem MkN.below {base : Nat} {p : PV} {nodes room more : Nat} {es : List (Int × Int)} {rs : List (List Int)} {w w' : World} (h : MkN base p nodes room more es rs w) (k : Below w.heap.size w w') : MkN base p nodes room more es rs w' := ⟨h.num, h.made.below k⟩
theorem MkN.nodes {base : Nat} {p : PV} {nodes room more : Nat} {es : List (Int × Int)} {rs : List (List Int)} {w : World} (h : MkN base p nodes room more es rs w) : p.nodes = (Plan.mkN nodes : Nat) := by
  have := congrArg Plan.Num.nodes h.num
  exact this
theorem mk_nums {p : PV} {nodes room more : Nat} (h : p.num = Plan.mkNum nodes room more) : I64 p.nodes ∧ I64 p.lanes ∧ I64 p.room ∧ I64 p.queue ∧ I64 p.rounds ∧ I64 p.every ∧ I64 p.bag := by
  have h0 : p.nodes = (Plan.mkN nodes : Nat) := congrArg Plan.Num.nodes h
  have h1 : p.lanes = (Plan.mkL more : Nat) := congrArg Plan.Num.lanes h
  have h2 : p.room = (1 + room % 8 : Nat) := congrArg Plan.Num.room h
  have h3 : p.queue = (1 + room / 8 % 8 : Nat) := congrArg Plan.Num.queue h
  have h4 : p.rounds = (1 + more / 3 % 4 : Nat) := congrArg Plan.Num.rounds h
  have h5 : p.every = (1 + more / 12 % 8 : Nat) := congrArg Plan.Num.every h
  have h6 : p.bag = 64 := congrArg Plan.Num.bag h
  unfold Plan.mkN at h0
  unfold Plan.mkL at h1
  unfold I64
  omega
theorem MkN.pln {base : Nat} {p : PV} {nodes room more : Nat} {es : List (Int × Int)} {rs : List (List Int)} {w : World} (h : MkN base p nodes room more es rs w) (h1 : es.length ≤ 100) (h3 : rs.length ≤ 100) (ei : ∀ x ∈ es, I64 x.1 ∧ I64 x.2) (ni : ∀ r ∈ rs, ∀ x ∈ r, I64 x) : PlN w p es (Plan.mkW more (Plan.mkL more)) rs :=
  (h.made.pln h1 (by rw [Plan.mkW_len]; unfold Plan.mkL; omega) h3 ei (fun x hx => by have := Plan.mkW_mem hx; unfold I64; omega) ni (mk_nums h.num)).1
theorem mk_may_rows {p : PV} {nodes room more : Nat} {es : List (Int × Int)} {rs : List (List Int)} (h : p.num = Plan.mkNum nodes room more) (he : Plan.edgesOk (Plan.mkN nodes : Nat) es = true) (h1 : rs.length = Plan.mkN nodes) (h2 : ∀ i, i < Plan.mkN nodes → (rs.getD i []).length = Plan.mkN nodes) : Plan.may p.num es (Plan.mkW more (Plan.mkL more)) (rs.map List.length) = true := by
  have hm := Plan.mk_may nodes room more 0
  have hr : rs.map List.length = List.replicate (Plan.mkN nodes) (Plan.mkN nodes) := by
    rw [List.eq_replicate_iff]
    refine ⟨by rw [List.length_map]; exact h1, fun x hx => ?_⟩
    obtain ⟨r, hr, rfl⟩ := List.mem_map.1 hx
    obtain ⟨i, hi, rfl⟩ := List.getElem_of_mem hr
    have := h2 i (by omega)
    rw [List.getD_eq_getElem?_getD, List.getElem?_eq_getElem hi] at this
    exact this
  rw [hr, h]
  unfold Plan.may at hm ⊢
  simp only [Bool.and_eq_true] at hm ⊢
  obtain ⟨⟨⟨⟨⟨a1, a2⟩, a3⟩, a4⟩, a5⟩, a6⟩ := hm
  exact ⟨⟨⟨⟨⟨a1, he⟩, a3⟩, a4⟩, a5⟩, a6⟩
theorem full_i64 {J N : Nat} (h : N ≤ 6) : ∀ x ∈ Plan.full J N, I64 x.1 ∧ I64 x.2 := by
  intro x hx
  obtain ⟨u, v, h1, h2, rfl⟩ := Plan.mem_full hx
  unfold I64
  simp only
  omega
theorem rows_i64 {N : Nat} (h1 : 1 ≤ N) (h6 : N ≤ 6) (l : List Nat) : ∀ r ∈ Route.mkRows N l, ∀ x ∈ r, I64 x := fun r hr x hx => by
  have := Route.mkRows_num h1 h6 l r hr x hx
  unfold I64
  omega
theorem makeN_is {w : World} (nodes room more J : Nat) (h1 : nodes < 256) (h2 : room < 256) (h3 : more < 256) (h4 : J < 65536) {a : Option Addr} {n c : Nat} {l : List Nat} (ho : Octs w a n l) :
    Calls Try.prog 9 #[.int .u8 (nodes : Nat), .int .u8 (room : Nat), .int .u8 (more : Nat), .int .u16 (J : Nat), .slice a n c] w fun e w' => ∃ p : PV, e = .returned p.val ∧ MkN w.heap.size p nodes room more (Plan.full J (Plan.mkN nodes)) (Route.mkRows (Plan.mkN nodes) l) w' ∧ PlN w' p (Plan.full J (Plan.mkN nodes)) (Plan.mkW more (Plan.mkL more)) (Route.mkRows (Plan.mkN nodes) l) ∧ Plan.may p.num (Plan.full J (Plan.mkN nodes)) (Plan.mkW more (Plan.mkL more)) ((Route.mkRows (Plan.mkN nodes) l).map List.length) = true ∧ Below w.heap.size w w' := by
  refine (makeN_any nodes room more J h1 h2 h3 h4 ho).mono ?_
  rintro e w' ⟨p, rfl, hn, hs, hm, hB⟩
  obtain ⟨hN1, hN2⟩ := Plan.mkN_b nodes
  have hk : MkN w.heap.size p nodes room more (Plan.full J (Plan.mkN nodes)) (Route.mkRows (Plan.mkN nodes) l) w' := ⟨hn, hm⟩
  have hf := Plan.full_len J (Plan.mkN nodes)
  have ht := Plan.tri_le hN2
  exact ⟨p, rfl, hk, hk.pln (by omega) (by rw [Route.mkRows_len]; omega) (full_i64 hN2) (rows_i64 (by omega) hN2 l), mk_may_rows hn (Plan.full_ok hN2) (Route.mkRows_len _ _) (fun i hi => Route.mkRows_row _ hi), hB⟩
end Go.Proofs.Ytphaaolnmbadcaa
