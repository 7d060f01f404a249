/-
  Contracts and plain facts that the walks lean on (TreeOf, NodeV, NodeW). Conditions: none but those that each states.
-/
import Derived.Test.YtniicgbkeifnjaaGreatDoorQ36
namespace Go.Proofs.YtniicgbkeifnjaaGreatDoor
open Go.ChangeShapes Go.WideShapes Go.ChangeAt Go.RowKit
set_option linter.unusedVariables false
set_option maxRecDepth 100000
namespace Tree
def ofPre (l : List Nat) (k : Nat) : List Int := (List.range k).map fun (i : Nat) => ((l.getD i 0 % (i + 1) : Nat) : Int)
def ofL (l : List Nat) : List Int := if l.length = 0 then [0] else ofPre l (min l.length 5)
theorem ofPre_len (l : List Nat) (k : Nat) : (ofPre l k).length = k := by unfold ofPre; rw [List.length_map, List.length_range]
theorem ofPre_succ (l : List Nat) (k : Nat) : ofPre l (k + 1) = ofPre l k ++ [((l.getD k 0 % (k + 1) : Nat) : Int)] := by unfold ofPre; rw [List.range_succ, List.map_append]; rfl
theorem ofPre_at (l : List Nat) {k i : Nat} (h : i < k) : (ofPre l k).getD i 0 = ((l.getD i 0 % (i + 1) : Nat) : Int) := by
  unfold ofPre
  rw [List.getD_eq_getElem?_getD, List.getElem?_map, List.getElem?_range h]
  rfl
theorem ofL_len (l : List Nat) : 1 ≤ (ofL l).length ∧ (ofL l).length ≤ 5 := by
  unfold ofL
  split
  · simp
  · rw [ofPre_len]; omega
theorem ofL_ok (l : List Nat) : ok (ofL l) = true := by
  have h5 := (ofL_len l).2
  unfold ok
  rw [Bool.and_eq_true, decide_eq_true_eq, low_iff]
  refine ⟨?_, h5⟩
  unfold ofL
  split
  · intro i hi
    have : i = 0 := by simpa using hi
    subst this
    simp
  · intro i hi
    rw [ofPre_len] at hi
    rw [ofPre_at l hi]
    have := Nat.mod_lt (l.getD i 0) (show i + 1 > 0 by omega)
    omega
theorem ofL_lay (l : List Nat) : layOk (ofL l) = true := by
  unfold layOk
  rw [ofL_ok, Bool.true_and, decide_eq_true_eq]
  have := (ofL_len l).1
  omega
end Tree
set_option maxHeartbeats 1000000 in
set_option maxRecDepth 100000 in
theorem of_any {w : World} {a : Option Addr} {n c : Nat} {l : List Nat} (h : Octs w a n l) :
    Calls Tryz.prog 34 #[.slice a n c] w fun e w' => ∃ u, e = .returned u ∧ w'.ownsRow w.heap.size 3 1 u (Tree.ofL l).length (zcells (Tree.ofL l)) ∧ Below w.heap.size w w' := by
  have HO : Hid (Octs w a n l) := h
  have hln := h.1
  clear h
  go_enter Tryz.func34, Tryz.ntmps34
  go_wp2_with fail
  go_loopw [3, 4] (fun out i wr => ∃ k : Nat, k ≤ n ∧ k ≤ 5 ∧ i = .int .i64 k ∧ wr.ownsRow w.heap.size 3 1 out (Tree.ofPre l k).length (zcells (Tree.ofPre l k)) ∧ Below w.heap.size w wr) (fun _ i _ => 5 - (intOf i).toNat)
  case atStart => exact ⟨0, Nat.zero_le _, Nat.zero_le _, rfl, World.ownsRow_nil _ _ _ _, Below.refl _ _⟩
  case round =>
    obtain ⟨k, hk, hk5, rfl, hO, hB⟩ := hrel
    have HOw : Hid (wr.ownsRow w.heap.size 3 1 u3 (Tree.ofPre l k).length (zcells (Tree.ofPre l k))) := hO
    have HB : Hid (Below w.heap.size w wr) := hB
    have hsz := hB.size
    clear hO hB
    by_cases hkn : k < n
    · by_cases hk6 : k < 5
      · obtain ⟨b, off, ha, hc⟩ := (HO.out.below HB.out).at (by omega)
        have hcell := hc k hkn
        subst ha
        obtain ⟨y, hy⟩ : ∃ y, l.getD k 0 = y := ⟨_, rfl⟩
        have hy256 : y < 256 := by rw [← hy]; exact Oct_getD HO.out.2.2.1 k
        rw [hy] at hcell
        obtain ⟨r, hr⟩ : ∃ r : Int, (y : Int) % ((k : Int) + 1) = r := ⟨_, rfl⟩
        have HA : Hid (Tree.ofPre l k ++ [r] = Tree.ofPre l (k + 1)) := by
          show _ = _
          rw [Tree.ofPre_succ, hy, ← hr]
          congr 2
        have hpl := Tree.ofPre_len l k
        clear hc hy
        go_wp2_with (at_builtin; refine wpList_append_z rfl (.tmp 15) (.tmp 24) rfl w.heap.size u3 (Tree.ofPre l k) rfl (owns_below HOw.out (fresh _ _)) (by simp; omega) (some ⟨wr.heap.size, 0, none⟩) 1 1 [r] rfl (zr_one wr _) (fun e => by cases e) (by omega) _ HA.out ?_; intro v4 w4 hown4 hB4)
        go_roundw
        case rel =>
          have R1 : Below w.heap.size w w4 := (HB.out.alloc hsz _).trans hB4
          first | exact ⟨k + 1, by omega, by omega, by go_num, hown4, R1⟩ | ((repeat apply Exists.intro); exact ⟨⟨k + 1, by omega, by omega, by go_num, hown4, R1⟩, rfl⟩)
        case measure => simp [intOf]; omega
      · obtain rfl : k = 5 := by omega
        obtain ⟨a3, cap3, hv3, hz3, _⟩ := zr_of_owns HOw.out
        rw [Tree.ofPre_len] at hv3
        subst hv3
        have HE : Hid (Tree.ofPre l 5 = Tree.ofL l) := by
          show _ = _
          unfold Tree.ofL
          rw [if_neg (by omega), show min l.length 5 = 5 by omega]
        clear hz3
        go_wp2_with fail
        go_ret
        refine ⟨_, rfl, ?_, HB.out⟩
        have := HOw.out
        rw [HE.out] at this
        exact this
    · obtain rfl : k = n := by omega
      obtain ⟨a3, cap3, hv3, hz3, _⟩ := zr_of_owns HOw.out
      rw [Tree.ofPre_len] at hv3
      subst hv3
      clear hz3
      by_cases hk0 : k = 0
      · subst hk0
        have HE : Hid (Tree.ofPre l 0 ++ [0] = Tree.ofL l) := by
          show _ = _
          unfold Tree.ofL
          rw [if_pos hln]
          rfl
        go_wp2_with (at_builtin; refine wpList_append_z rfl (.tmp 29) (.tmp 30) rfl w.heap.size (.slice a3 0 cap3) (Tree.ofPre l 0) rfl (owns_below HOw.out (fresh _ _)) (by simp; omega) (some ⟨wr.heap.size, 0, none⟩) 1 1 [0] rfl (zr_one wr _) (fun e => by cases e) (by rw [Tree.ofPre_len]; omega) _ HE.out ?_; intro v4 w4 hown4 hB4)
        go_ret
        exact ⟨_, rfl, hown4, (HB.out.alloc hsz _).trans hB4⟩
      · have HE : Hid (Tree.ofPre l k = Tree.ofL l) := by
          show _ = _
          unfold Tree.ofL
          rw [if_neg (by omega), show min l.length 5 = k by omega]
        have hk0' : ((k : Int) == 0) = false := by simp; omega
        go_wp2_with fail
        go_ret
        refine ⟨_, rfl, ?_, HB.out⟩
        have := HOw.out
        rw [HE.out] at this
        exact this
theorem LayEnd.yes {k : IntKind} {base : Nat} {p : PV} {ps ws : List Int} {e : Ending} {w' : World} (h : LayEnd k base p ps ws e w') (hl : Tree.layOk ps = true) : ∃ q : PV, e = .returned (.tuple #[q.val, .int k 0]) ∧ Laid base p ps ws q w' := by
  rcases h with ⟨_, h⟩ | ⟨h, _⟩
  · exact h
  · rw [hl] at h; cases h
namespace Tree
theorem edges_mem {ps : List Int} (ho : ok ps = true) {x : Int × Int} (hx : x ∈ edges ps) : I64 x.1 ∧ I64 x.2 := by
  obtain ⟨h5, hl⟩ := ok_parts ho
  unfold edges at hx
  obtain ⟨i, hi, rfl⟩ := List.mem_map.1 hx
  have hi' := List.mem_range.1 hi
  have := hl i hi'
  unfold I64
  simp only
  omega
def q_edges (ps : List Int) : Bool := Plan.edgesOk ((ps.length + 1 : Nat) : Int) (edges ps)
theorem edges_all : all5.all q_edges = true := by decide +kernel
theorem edges_ok {ps : List Int} (ho : ok ps = true) : Plan.edgesOk ((ps.length + 1 : Nat) : Int) (edges ps) = true := by
  have h := edges_all
  rw [List.all_eq_true] at h
  exact h ps (mem_all5 ho)
end Tree
theorem Laid.zr {base : Nat} {p q : PV} {ps ws : List Int} {w : World} (h : Laid base p ps ws q w) : Zr w q.wa q.wn ws ∧ q.wn = ws.length ∧ q.wn ≤ q.wc ∧ q.wc ≤ maxLen ∧ (q.wa = none → q.wc = 0) := by
  obtain ⟨a, cap, e, hz, h1, h2, h3, _⟩ := zr_of_owns h.hw
  simp only [Value.slice.injEq] at e
  obtain ⟨e1, e2, e3⟩ := e
  rw [e1, e2, e3]
  exact ⟨hz, rfl, h1, h2, h3⟩
theorem Laid.pl {base : Nat} {p q : PV} {ps ws : List Int} {w w0 : World} {es : List (Int × Int)} {ns : List Nat} (h : Laid base p ps ws q w) (hp : Pl w0 p es ws ns) (ho : Tree.ok ps = true) : Pl w q (Tree.edges ps) ws ((Tree.rows ps).map List.length) := by
  obtain ⟨z1, z2, z3, z4, z5⟩ := h.zr
  have h5 := (Tree.ok_parts ho).1
  have he := h.pr.1.1
  have hn := h.mr.1.1
  rw [Tree.edges_len] at he
  rw [Tree.rows_len] at hn
  obtain ⟨i0, i1, i2, i3, i4, i5, i6⟩ := hp.qi
  refine ⟨h.pr.1, z1, h.mr.1.lr, by omega, by rw [z2, hp.hw.1]; exact hp.wb, by omega, ⟨h.pr.2.1, h.pr.2.2.1⟩, ⟨z3, z4⟩, ⟨h.mr.2.1, h.mr.2.2.1⟩, fun x hx => Tree.edges_mem ho hx, hp.wi, ?_⟩
  rw [h.nodes, h.lanes, h.room, h.queue, h.rounds, h.every, h.bag]
  exact ⟨by unfold I64; omega, i1, i2, i3, i4, i5, i6⟩
theorem laid_may {q : PV} {ps ws : List Int} (hq : q.nodes = ((ps.length + 1 : Nat) : Int)) (ho : Tree.layOk ps = true) (hf : Plan.bnd q.lanes 1 3 = true ∧ Plan.bnd q.room 1 8 = true ∧ Plan.bnd q.queue 1 8 = true ∧ Plan.bnd q.rounds 1 4 = true ∧ Plan.bnd q.every 1 8 = true ∧ Plan.bnd q.bag 1 64 = true) (hw : Plan.wsOk ws = true) (hl : (ws.length : Int) = q.lanes) : Plan.errno (Plan.may q.num (Tree.edges ps) ws ((Tree.rows ps).map List.length)) = 0 := by
  unfold Tree.layOk at ho
  rw [Bool.and_eq_true, decide_eq_true_eq] at ho
  have h5 := (Tree.ok_parts ho.1).1
  have hN : Plan.bnd q.nodes 2 6 = true := by rw [hq]; unfold Plan.bnd; simp; omega
  have he := Tree.edges_ok ho.1
  rw [← hq] at he
  have hr : ((Tree.rows ps).map List.length).all (fun n => decide ((n : Int) = q.nodes)) = true := by
    rw [List.all_eq_true]
    intro x hx
    obtain ⟨r, hr, rfl⟩ := List.mem_map.1 hx
    unfold Tree.rows at hr
    obtain ⟨v, _, rfl⟩ := List.mem_map.1 hr
    rw [Tree.row_len, hq]
    simp
  have hrl : (((Tree.rows ps).map List.length).length : Int) = q.nodes := by rw [List.length_map, Tree.rows_len, hq]
  have hm : Plan.may q.num (Tree.edges ps) ws ((Tree.rows ps).map List.length) = true := by
    unfold Plan.may Plan.fine PV.num
    simp only [hN, hf.1, hf.2.1, hf.2.2.1, hf.2.2.2.1, hf.2.2.2.2.1, hf.2.2.2.2.2, he, hw, hl, hr, hrl, decide_true, Bool.and_self]
  rw [hm]
  rfl
theorem laid_may' {q : PV} {ps ws : List Int} (hq : q.nodes = ((ps.length + 1 : Nat) : Int)) (ho : Tree.layOk ps = true) (hf : Plan.bnd q.lanes 1 3 = true ∧ Plan.bnd q.room 1 8 = true ∧ Plan.bnd q.queue 1 8 = true ∧ Plan.bnd q.rounds 1 4 = true ∧ Plan.bnd q.every 1 8 = true ∧ Plan.bnd q.bag 1 64 = true) (hw : Plan.wsOk ws = true) (hl : (ws.length : Int) = q.lanes) : Plan.may q.num (Tree.edges ps) ws ((Tree.rows ps).map List.length) = true := by
  have h := laid_may hq ho hf hw hl
  cases e : Plan.may q.num (Tree.edges ps) ws ((Tree.rows ps).map List.length) with
  | true => rfl
  | false => rw [e] at h; exact absurd h (by decide)
theorem way_in {ps : List Int} (ho : Tree.ok ps = true) : ∀ r ∈ Tree.rows ps, ∀ x ∈ r, 0 ≤ x ∧ x ≤ 5 := by
  have h : (Tree.all5.all fun ps => (Tree.rows ps).all fun r => r.all fun x => decide (0 ≤ x) && decide (x ≤ 5)) = true := by decide +kernel
  rw [List.all_eq_true] at h
  have h1 := h ps (Tree.mem_all5 ho)
  simp only [List.all_eq_true, Bool.and_eq_true, decide_eq_true_eq] at h1
  exact h1
theorem Laid.pln {base : Nat} {p q : PV} {ps ws : List Int} {w w0 : World} {es : List (Int × Int)} {ns : List Nat} (h : Laid base p ps ws q w) (hp : Pl w0 p es ws ns) (ho : Tree.ok ps = true) : PlN w q (Tree.edges ps) ws (Tree.rows ps) :=
  ⟨h.pl hp ho, h.mr.1, fun r hr x hx => by have := way_in ho r hr x hx; unfold I64; omega⟩
end Go.Proofs.YtniicgbkeifnjaaGreatDoor
namespace Go.Proofs.YtniicgbkeifnjaaGreatDoor
open Go.ChangeShapes Go.WideShapes Go.ChangeAt Go.RowKit
set_option linter.unusedVariables false
set_option maxRecDepth 100000
namespace Nd
structure TreePlan (w : World) (l : List Nat) (room more start : Nat) (p : PV) : Prop where
  pln : PlN w p (Tree.edges (Tree.ofL l)) (Plan.mkW more (Plan.mkL more)) (Tree.rows (Tree.ofL l))
  may : Plan.may p.num (Tree.edges (Tree.ofL l)) (Plan.mkW more (Plan.mkL more)) ((Tree.rows (Tree.ofL l)).map List.length) = true
  good : ¬ Route.Bad p.nodes (Tree.edges (Tree.ofL l)) (Tree.rows (Tree.ofL l))
  nodes : p.nodes = (((Tree.ofL l).length + 1 : Nat) : Int)
  start : p.start = (start : Nat)
  nums : p.lanes = (Plan.mkNum 0 room more).lanes ∧ p.room = (Plan.mkNum 0 room more).room ∧ p.queue = (Plan.mkNum 0 room more).queue ∧ p.rounds = (Plan.mkNum 0 room more).rounds ∧ p.every = (Plan.mkNum 0 room more).every ∧ p.bag = (Plan.mkNum 0 room more).bag
theorem mkP {w : World} (nodes room more J : Nat) (h1 : nodes < 256) (h2 : room < 256) (h3 : more < 256) (h4 : J < 65536) {a : Option Addr} {n c : Nat} {l : List Nat} (ho : Octs w a n l) :
    Calls Tryz.prog 23 #[.int .u8 (nodes : Nat), .int .u8 (room : Nat), .int .u8 (more : Nat), .int .u16 (J : Nat), .slice a n c] w fun e w' => ∃ p : PV, e = .returned p.val ∧ p.num = Plan.mkNum nodes room more ∧ p.start = (J : Nat) ∧ (p.wa = none → p.wn = 0 ∧ p.wc = 0) ∧ PlN w' p (Plan.full J (Plan.mkN nodes)) (Plan.mkW more (Plan.mkL more)) (Route.mkRows (Plan.mkN nodes) l) ∧ Below w.heap.size w w' := by
  refine (makeN_any nodes room more J h1 h2 h3 h4 ho).mono ?_
  rintro e w' ⟨p, rfl, hn, hs, hm, hB⟩
  obtain ⟨hN1, hN2⟩ := Plan.mkN_b nodes
  have hk : MkN w.heap.size p nodes room more (Plan.full J (Plan.mkN nodes)) (Route.mkRows (Plan.mkN nodes) l) w' := ⟨hn, hm⟩
  have hf := Plan.full_len J (Plan.mkN nodes)
  have ht := Plan.tri_le hN2
  have hQ := hk.pln (by omega) (by rw [Route.mkRows_len]; omega) (full_i64 hN2) (rows_i64 (by omega) hN2 l)
  refine ⟨p, rfl, hn, hs, fun e => ?_, hQ, hB⟩
  have h1 := hQ.pl.hw.1
  rw [Plan.mkW_len] at h1
  have : 1 ≤ Plan.mkL more := by unfold Plan.mkL; omega
  rcases hQ.pl.hw.2.2 with h0 | ⟨b, off, e2, _⟩
  · omega
  · rw [e] at e2; cases e2
theorem mk_bounds' {p : PV} {nodes room more : Nat} (h : p.num = Plan.mkNum nodes room more) : Plan.bnd p.lanes 1 3 = true ∧ Plan.bnd p.room 1 8 = true ∧ Plan.bnd p.queue 1 8 = true ∧ Plan.bnd p.rounds 1 4 = true ∧ Plan.bnd p.every 1 8 = true ∧ Plan.bnd p.bag 1 64 = true := by
  have hf := Plan.mk_fine nodes room more
  rw [← h] at hf
  unfold Plan.fine PV.num at hf
  simp only [Bool.and_eq_true] at hf
  exact ⟨hf.1.1.1.1.1.2, hf.1.1.1.1.2, hf.1.1.1.2, hf.1.1.2, hf.1.2, hf.2⟩
set_option maxHeartbeats 4000000 in
set_option maxRecDepth 100000 in
theorem plan_any {w : World} {a : Option Addr} {n c : Nat} {l : List Nat} (ho : Octs w a n l) (room more start : Nat) (h1 : room < 256) (h2 : more < 256) (h3 : start < 65536) :
    Calls Tryz.prog 10 #[.slice a n c, .int .u8 (room : Nat), .int .u8 (more : Nat), .int .u16 (start : Nat)] w fun e w' => ∃ p : PV, e = .returned p.val ∧ TreePlan w' l room more start p ∧ Below w.heap.size w w' := by
  have HO : Hid (Octs w a n l) := ho
  clear ho
  have hll := Tree.ofL_len l
  have HOk : Hid (Tree.ok (Tree.ofL l) = true) := Tree.ofL_ok l
  have HLy : Hid (Tree.layOk (Tree.ofL l) = true) := Tree.ofL_lay l
  go_enter Tryz.func10, Tryz.ntmps10
  obtain ⟨R, hR⟩ : ∃ R, w.heap.size = R := ⟨_, rfl⟩
  obtain ⟨W, hW⟩ : ∃ W, W = w.alloc (PV.obj ⟨0, 0, 0, 0, 0, 0, 0, 0, none, 0, 0, none, 0, 0, none, 0, 0⟩) := ⟨_, rfl⟩
  have HX : Hid (Bx W R ⟨0, 0, 0, 0, 0, 0, 0, 0, none, 0, 0, none, 0, 0, none, 0, 0⟩ ∧ Below w.heap.size w W ∧ R < W.heap.size) := by rw [hW, ← hR]; exact ⟨bx_new _ _, fresh _ _, by simp⟩
  simp only [PV.obj] at hW
  go_upto_region 1 with fail
  rw [← hW]
  clear hW
  go_wp2_with fail
  refine (mkP 0 room more start (by omega) h1 h2 h3 (oct0 W)).mono ?_
  rintro e w1 ⟨q, rfl, hnum, hst, hwn, hQ, hB1⟩
  have HQ : Hid _ := And.intro hnum (And.intro hst (And.intro hwn hQ))
  have HB1 : Hid (Below W.heap.size W w1) := hB1
  clear hnum hst hwn hQ hB1
  go_wp2_with fail
  refine (of_any (HO.out.below (later HX.out.2.1 HB1.out))).mono ?_
  rintro e w2 ⟨t2, rfl, hown2, hB2⟩
  obtain ⟨ta, tc, ht2, hz2, _⟩ := zr_of_owns hown2
  subst ht2
  have HZ2 : Hid (Zr w2 ta (Tree.ofL l).length (Tree.ofL l)) := hz2
  have HB2 : Hid (Below w1.heap.size w1 w2) := hB2
  clear hown2 hz2 hB2
  go_wp2_with fail
  refine (rlay_any (HQ.out.2.2.2.pl.below HB2.out) HZ2.out (by omega) HQ.out.2.2.1).mono ?_
  rintro e w4 ⟨hE, hB4⟩
  obtain ⟨r, rfl, hLd⟩ := hE.yes HLy.out
  have hmay := laid_may' (q := r) hLd.nodes HLy.out (by rw [hLd.lanes, hLd.room, hLd.queue, hLd.rounds, hLd.every, hLd.bag]; exact mk_bounds' HQ.out.1) (Plan.mkW_ok more) (by rw [hLd.lanes, Plan.mkW_len]; exact (congrArg Plan.Num.lanes HQ.out.1).symm)
  have hst := hLd.start.trans HQ.out.2.1
  have hnd := hLd.nodes
  have HLd : Hid (Laid w2.heap.size q (Tree.ofL l) (Plan.mkW more (Plan.mkL more)) r w4) := hLd
  have HB4 : Hid (Below w2.heap.size w2 w4) := hB4
  have HMy : Hid (Plan.may r.num (Tree.edges (Tree.ofL l)) (Plan.mkW more (Plan.mkL more)) ((Tree.rows (Tree.ofL l)).map List.length) = true ∧ r.start = (start : Nat) ∧ r.nodes = (((Tree.ofL l).length + 1 : Nat) : Int) ∧ (r.lanes = (Plan.mkNum 0 room more).lanes ∧ r.room = (Plan.mkNum 0 room more).room ∧ r.queue = (Plan.mkNum 0 room more).queue ∧ r.rounds = (Plan.mkNum 0 room more).rounds ∧ r.every = (Plan.mkNum 0 room more).every ∧ r.bag = (Plan.mkNum 0 room more).bag)) := ⟨hmay, hst, hnd, hLd.lanes.trans (congrArg Plan.Num.lanes HQ.out.1), hLd.room.trans (congrArg Plan.Num.room HQ.out.1), hLd.queue.trans (congrArg Plan.Num.queue HQ.out.1), hLd.rounds.trans (congrArg Plan.Num.rounds HQ.out.1), hLd.every.trans (congrArg Plan.Num.every HQ.out.1), hLd.bag.trans (congrArg Plan.Num.bag HQ.out.1)⟩
  obtain ⟨X, hX⟩ : ∃ X, X = w4.alloc r.obj := ⟨_, rfl⟩
  have HR0 : Hid (R < w2.heap.size ∧ Below w.heap.size w w2) := ⟨by have := HX.out.2.2; have := HB1.out.size; have := HB2.out.size; omega, later (later HX.out.2.1 HB1.out) HB2.out⟩
  have HXb : Hid (Bxd X w4.heap.size r ∧ Bx X R ⟨0, 0, 0, 0, 0, 0, 0, 0, none, 0, 0, none, 0, 0, none, 0, 0⟩ ∧ Below w4.heap.size w4 X) := by
    rw [hX]
    have hb := HB1.out.size
    exact ⟨bxd_new _ _, ((((HX.out.1.below HB1.out HX.out.2.2).below HB2.out (by have := HX.out.2.2; omega)).below HB4.out HR0.out.1).below (fresh _ _) (by have := HR0.out.1; have := HB4.out.size; omega)), fresh _ _⟩
  have HRw : Hid (w.heap.size ≤ R) := by show _ ≤ _; omega
  clear hLd hB4 hE hmay hst hnd hR
  obtain ⟨qN, lanes, room', queue, rounds, every, bag, start', ea, en, ec, wa', wn, wc', na, nn, nc⟩ := r
  simp only [PV.obj] at hX
  simp only [PV.val]
  go_upto_region 2 with fail
  rw [← hX]
  clear hX
  obtain ⟨x0, x1, x2, x3, x4, x5, x6, x7, x8, x9, x10⟩ := HXb.out.1
  obtain ⟨y0, y1, y2, y3, y4, y5, y6, y7, y8, y9, y10⟩ := HXb.out.2.1.x
  have f0 := HXb.out.2.1.f
  simp only at x0 x1 x2 x3 x4 x5 x6 x7 x8 x9 x10 y0 y1 y2 y3 y4 y5 y6 y7 y8 y9 y10
  go_wp2_with fail
  have HF : Hid (Bxd (lay11 X R ⟨qN, lanes, room', queue, rounds, every, bag, start', ea, en, ec, wa', wn, wc', na, nn, nc⟩) R ⟨qN, lanes, room', queue, rounds, every, bag, start', ea, en, ec, wa', wn, wc', na, nn, nc⟩ ∧ Sans (fun j => j = R) X (lay11 X R ⟨qN, lanes, room', queue, rounds, every, bag, start', ea, en, ec, wa', wn, wc', na, nn, nc⟩)) := ⟨lay11_bxd HXb.out.2.1 _, lay11_sans _ _ _⟩
  unfold lay11 at HF
  simp only at HF
  clear x0 x1 x2 x3 x4 x5 x6 x7 x8 x9 x10 y0 y1 y2 y3 y4 y5 y6 y7 y8 y9 y10 f0
  generalize World.setCell _ ⟨R, 10, none⟩ _ = Wf at HF ⊢
  obtain ⟨x0, x1, x2, x3, x4, x5, x6, x7, x8, x9, x10⟩ := HF.out.1
  simp only at x0 x1 x2 x3 x4 x5 x6 x7 x8 x9 x10
  refine bodyPost_ret (v := PV.val ⟨qN, lanes, room', queue, rounds, every, bag, start', ea, en, ec, wa', wn, wc', na, nn, nc⟩) (by simp [results, Tryz.f10, go_sem, x0, x1, x2, x3, x4, x5, x6, x7, x8, x9, x10, PV.val]) rfl ?_
  have hL2 := (HLd.out.below HXb.out.2.2).sans HF.out.2 (fun j hj e => by have := HR0.out.1; omega)
  have hb2 : Below w.heap.size w X := later (later HR0.out.2 HB4.out) HXb.out.2.2
  refine ⟨_, rfl, ⟨hL2.pln HQ.out.2.2.2.pl HOk.out, HMy.out.1, ?_, HMy.out.2.2.1, HMy.out.2.1, HMy.out.2.2.2⟩, hb2.trans (HF.out.2.below (B := w.heap.size) hb2.size (fun j e => by rw [e]; exact HRw.out))⟩
  rw [HMy.out.2.2.1]
  exact (Route.tree_fine HLy.out).1
end Nd
end Go.Proofs.YtniicgbkeifnjaaGreatDoor
namespace Go.Proofs.YtniicgbkeifnjaaGreatDoor
open Go.ChangeShapes Go.WideShapes Go.ChangeAt Go.RowKit
set_option linter.unusedVariables false
set_option maxRecDepth 100000
namespace Nd
def esK : List (Int × Int) := [(0, 1)]
def rsK : List (List Int) := [[0, 1], [0, 1]]
def cK (v : Nat) : Cfg := ⟨v, 2, 1, 2, 1, 1, 8, Plan.bes esK v, wayOf esK rsK v, fun k => ([1] : List Int).getD k 0⟩
theorem treeK : Tree.edges (Tree.ofL [0]) = esK ∧ Tree.rows (Tree.ofL [0]) = rsK ∧ Plan.mkW 0 (Plan.mkL 0) = [1] ∧ (Tree.ofL [0]).length = 1 := by decide +kernel
theorem numK : (Plan.mkNum 0 1 0).lanes = 1 ∧ (Plan.mkNum 0 1 0).room = 2 ∧ (Plan.mkNum 0 1 0).queue = 1 ∧ (Plan.mkNum 0 1 0).rounds = 1 ∧ (Plan.mkNum 0 1 0).every = 1 ∧ (Plan.mkNum 0 1 0).bag = 64 := by decide +kernel
theorem mayK : Plan.may ⟨2, 1, 2, 1, 1, 8, 64⟩ esK [1] (rsK.map List.length) = true := by decide +kernel
def xK : Pk := ⟨0, 1, 0, 7⟩
def sA : St := inj (cK 0) (st0 (cK 0) 0) xK
def byK : List Nat := ((tick (cK 0) sA).2.getD 0 (0, [])).2
def sB : St := take (cK 1) (st0 (cK 1) 0) 0 byK
theorem ex1 : injE (cK 0) (st0 (cK 0) 0) xK = 0 := by decide +kernel
theorem ex2 : (tick (cK 0) sA).2.map (fun o => o.1) = [1] := by decide +kernel
theorem ex3 : takeE (cK 1) (st0 (cK 1) 0) 0 byK = 0 := by decide +kernel
theorem ex4 : (tick (cK 1) sB).1.hG = [xK] := by kernel_rfl
theorem ex5 : injE (cK 0) (tick (cK 0) sA).1 ⟨1, 0, 0, 0⟩ = 1 := by decide +kernel
end Nd
end Go.Proofs.YtniicgbkeifnjaaGreatDoor
