/-
  Contracts and plain facts that the walks lean on (RefPlanA, RefPlanB, RefPlanC, WrrNew, MaskA, MaskB). Conditions: none but those that each states.
-/
import Derived.Test.YtniicgbkeifnjaaGreatDoorQ8
import Derived.Laws.CopyOwn
import Derived.Laws.CopyRow
import Derived.RangeFuncRecord
import Derived.Test.YtniicgbkeifnjaaGreatDoorQ6
import Derived.Lib.LaidTab
import Derived.Laws.ShiftsVarLaws
import Derived.Lib.BitFns
import Derived.Lib.Tables
import Derived.Laws.AppendOwn
import Derived.RangeFuncBox
namespace Go.Proofs.YtniicgbkeifnjaaGreatDoor
open Go.ChangeShapes Go.WideShapes Go.ChangeAt Go.RowKit
set_option linter.unusedVariables false
set_option maxRecDepth 100000
theorem zr_zero {w : World} {a : Option Addr} {l : List Int} (h : l.length = 0) : Zr w a 0 l := ⟨h, by unfold maxLen; omega, .inl rfl⟩
theorem take_getD {l : List Int} {k : Nat} (h : k < l.length) : l.take (k + 1) = l.take k ++ [l.getD k 0] := by
  rw [List.take_succ_eq_append_getElem h, List.getD_eq_getElem?_getD, List.getElem?_eq_getElem h]
  rfl
set_option maxHeartbeats 2000000 in
set_option maxRecDepth 100000 in
theorem lay_any {w : World} {a : Option Addr} {n c : Nat} {l : List Int} (x : Int) (h : Zr w a n l) (hc : n ≤ c ∧ c ≤ maxLen) (hnil : a = none → c = 0) (hn : n ≤ 8796093022208) :
    Calls Tryz.prog 113 #[.slice a n c, .int .i64 x] w fun e w' => ∃ v, e = .returned v ∧ w'.ownsRow w.heap.size 3 1 v (Plan.lay l x).length (zcells (Plan.lay l x)) ∧ Below w.heap.size w w' := by
  have HZ : Hid (Zr w a n l) := h
  have hln := h.1
  have HC : Hid (n ≤ c ∧ c ≤ maxLen) := hc
  clear h hc
  go_enter Tryz.func113, Tryz.ntmps113
  go_wp2_with fail
  go_loopw [5, 6] (fun v i wr => ∃ k : Nat, k ≤ n ∧ i = .int .i64 k ∧ (∀ j, j < k → l.getD j 0 < x) ∧ wr.ownsRow w.heap.size 3 1 v (l.take k).length (zcells (l.take k)) ∧ Below w.heap.size w wr) (fun _ i _ => n - (intOf i).toNat)
  case atStart => exact ⟨0, Nat.zero_le _, rfl, fun j hj => by omega, World.ownsRow_nil _ _ _ _, Below.refl _ _⟩
  case round =>
    obtain ⟨k, hk, rfl, hlt, hO, hB⟩ := hrel
    have HO : Hid (wr.ownsRow w.heap.size 3 1 u5 (l.take k).length (zcells (l.take k))) := hO
    have HB : Hid (Below w.heap.size w wr) := hB
    have HL : Hid (∀ j, j < k → l.getD j 0 < x) := hlt
    clear hO hB hlt
    have hln2 : (l.take k).length = k := by rw [List.length_take]; omega
    by_cases hkn : k < n
    · obtain ⟨b, off, ha, hcell⟩ := (HZ.out.below HB.out).at hkn
      subst ha
      by_cases hx : l.getD k 0 < x
      · have HX : Hid (l.getD k 0 < x) := hx
        obtain ⟨y, hy⟩ : ∃ y, l.getD k 0 = y := ⟨_, rfl⟩
        have HY : Hid (l.getD k 0 = y) := hy
        rw [hy] at hx hcell
        clear hy
        have hsz := HB.out.size
        go_wp2_with (at_builtin; refine wpList_append_z rfl _ _ rfl w.heap.size u5 (l.take k) rfl (owns_below HO.out (fresh _ _)) (by simp; omega) _ 1 _ [y] rfl (zr_one wr y) (fun e => by cases e) (by omega) (l.take (k + 1)) (by rw [take_getD (by omega), HY.out]) ?_; intro v' w2 hown hB2)
        go_roundw
        case rel => exact ⟨k + 1, by omega, by go_num, fun j hj => by
          by_cases e : j = k
          · rw [e]; exact HX.out
          · exact HL.out j (by omega), hown, (HB.out.alloc hsz _).trans hB2⟩
        case measure => simp [intOf]; omega
      · obtain ⟨y, hy⟩ : ∃ y, l.getD k 0 = y := ⟨_, rfl⟩
        have HY : Hid (l.getD k 0 = y) := hy
        rw [hy] at hx hcell
        clear hy
        have hsz := HB.out.size
        obtain ⟨hc1, hc2⟩ := HC.out
        by_cases hxe : y = x
        · have hat := Plan.lay_at x l k (by omega) HL.out (fun _ => by rw [HY.out]; exact hx)
          rw [HY.out, if_pos ⟨by omega, hxe⟩] at hat
          have HAT : Hid (Plan.lay l x = l.take k ++ [x] ++ l.drop (k + 1)) := hat
          clear hat
          subst hxe
          have hZ2 : Hid (∀ w2, Below w.heap.size (wr.alloc (.cells #[.int .i64 y] 3)) w2 → Zr w2 (some ⟨b, off + (k + 1), none⟩) (n - (k + 1)) (l.drop (k + 1))) := fun w2 h2 => (HZ.out.below ((HB.out.alloc hsz _).trans h2)).drop (by omega)
          by_cases hck : c = k + 1
          · have e0 : n - (k + 1) = 0 := by omega
            have e1 : n = k + 1 := by omega
            subst hck
            subst e1
            go_wp2_with (first
              | (at_builtin; refine wpList_append_z rfl (.tmp 42) (.tmp 44) rfl w.heap.size u5 (l.take k) rfl (owns_below HO.out (fresh _ _)) (by simp; omega) _ 1 _ [y] rfl (zr_one wr y) (fun e => by cases e) (by omega) (l.take k ++ [y]) rfl ?_; intro v' w2 hown hB2)
              | (at_builtin; refine wpList_append_z rfl (.tmp 46) (.tmp 49) rfl w.heap.size v' (l.take k ++ [y]) rfl hown (by have := hB2.size; simp at this; omega) _ 0 _ (l.drop (k + 1)) rfl (zr_zero (by rw [List.length_drop]; omega)) (fun e => by cases e) (by rw [List.length_append, hln2]; simp; omega) _ HAT.out.symm ?_; intro v3 w3 hown3 hB3))
            go_ret
            exact ⟨_, rfl, hown3, ((HB.out.alloc hsz _).trans hB2).trans hB3⟩
          · have hck' : ¬ c - (k + 1) = 0 := by omega
            go_wp2_with (first
              | (at_builtin; refine wpList_append_z rfl (.tmp 42) (.tmp 44) rfl w.heap.size u5 (l.take k) rfl (owns_below HO.out (fresh _ _)) (by simp; omega) _ 1 _ [y] rfl (zr_one wr y) (fun e => by cases e) (by omega) (l.take k ++ [y]) rfl ?_; intro v' w2 hown hB2)
              | (at_builtin; refine wpList_append_z rfl (.tmp 46) (.tmp 49) rfl w.heap.size v' (l.take k ++ [y]) rfl hown (by have := hB2.size; simp at this; omega) _ (n - (k + 1)) _ (l.drop (k + 1)) rfl (hZ2.out w2 hB2) (fun e => by cases e) (by rw [List.length_append, hln2]; simp; omega) _ HAT.out.symm ?_; intro v3 w3 hown3 hB3))
            go_ret
            exact ⟨_, rfl, hown3, ((HB.out.alloc hsz _).trans hB2).trans hB3⟩
        · have hxe' : (y == x) = false := by simpa using hxe
          have hat := Plan.lay_at x l k (by omega) HL.out (fun _ => by rw [HY.out]; exact hx)
          rw [HY.out, if_neg (fun e => hxe e.2)] at hat
          have HAT : Hid (Plan.lay l x = l.take k ++ [x] ++ l.drop k) := hat
          clear hat
          have hZ2 : Hid (∀ w2, Below w.heap.size (wr.alloc (.cells #[.int .i64 x] 3)) w2 → Zr w2 (some ⟨b, off + k, none⟩) (n - k) (l.drop k)) := fun w2 h2 => (HZ.out.below ((HB.out.alloc hsz _).trans h2)).drop (by omega)
          go_wp2_with (first
            | (at_builtin; refine wpList_append_z rfl (.tmp 42) (.tmp 44) rfl w.heap.size u5 (l.take k) rfl (owns_below HO.out (fresh _ _)) (by simp; omega) _ 1 _ [x] rfl (zr_one wr x) (fun e => by cases e) (by omega) (l.take k ++ [x]) rfl ?_; intro v' w2 hown hB2)
            | (at_builtin; refine wpList_append_z rfl (.tmp 46) (.tmp 49) rfl w.heap.size v' (l.take k ++ [x]) rfl hown (by have := hB2.size; simp at this; omega) _ (n - k) _ (l.drop k) rfl (hZ2.out w2 hB2) (fun e => by cases e) (by rw [List.length_append, hln2]; simp; omega) _ HAT.out.symm ?_; intro v3 w3 hown3 hB3))
          go_ret
          exact ⟨_, rfl, hown3, ((HB.out.alloc hsz _).trans hB2).trans hB3⟩
    · obtain rfl : k = n := by omega
      have hat := Plan.lay_at x l k (by omega) HL.out (fun h => by omega)
      rw [if_neg (by omega)] at hat
      have HAT : Hid (Plan.lay l x = l.take k ++ [x] ++ l.drop k) := hat
      have hsz := HB.out.size
      obtain ⟨hc1, hc2⟩ := HC.out
      have hd0 : (l.drop k).length = 0 := by rw [List.length_drop]; omega
      clear hat
      cases a with
      | none =>
        obtain rfl : c = 0 := hnil rfl
        obtain rfl : k = 0 := by omega
        go_wp2_with (first
          | (at_builtin; refine wpList_append_z rfl (.tmp 42) (.tmp 44) rfl w.heap.size u5 (l.take 0) rfl (owns_below HO.out (fresh _ _)) (by simp; omega) _ 1 _ [x] rfl (zr_one wr x) (fun e => by cases e) (by simp) (l.take 0 ++ [x]) rfl ?_; intro v' w2 hown hB2)
          | (at_builtin; refine wpList_append_z rfl (.tmp 46) (.tmp 49) rfl w.heap.size v' (l.take 0 ++ [x]) rfl hown (by have := hB2.size; simp at this; omega) _ 0 _ (l.drop 0) rfl (zr_zero hd0) (fun _ => ⟨rfl, rfl⟩) (by simp) _ HAT.out.symm ?_; intro v3 w3 hown3 hB3))
        go_ret
        exact ⟨_, rfl, hown3, ((HB.out.alloc hsz _).trans hB2).trans hB3⟩
      | some ad =>
        by_cases hck : c = k
        · subst hck
          go_wp2_with (first
            | (at_builtin; refine wpList_append_z rfl (.tmp 42) (.tmp 44) rfl w.heap.size u5 (l.take c) rfl (owns_below HO.out (fresh _ _)) (by simp; omega) _ 1 _ [x] rfl (zr_one wr x) (fun e => by cases e) (by omega) (l.take c ++ [x]) rfl ?_; intro v' w2 hown hB2)
            | (at_builtin; refine wpList_append_z rfl (.tmp 46) (.tmp 49) rfl w.heap.size v' (l.take c ++ [x]) rfl hown (by have := hB2.size; simp at this; omega) _ 0 _ (l.drop c) rfl (zr_zero hd0) (fun e => by cases e) (by rw [List.length_append, hln2]; simp; omega) _ HAT.out.symm ?_; intro v3 w3 hown3 hB3))
          go_ret
          exact ⟨_, rfl, hown3, ((HB.out.alloc hsz _).trans hB2).trans hB3⟩
        · have hck' : ¬ c - k = 0 := by omega
          go_wp2_with (first
            | (at_builtin; refine wpList_append_z rfl (.tmp 42) (.tmp 44) rfl w.heap.size u5 (l.take k) rfl (owns_below HO.out (fresh _ _)) (by simp; omega) _ 1 _ [x] rfl (zr_one wr x) (fun e => by cases e) (by omega) (l.take k ++ [x]) rfl ?_; intro v' w2 hown hB2)
            | (at_builtin; refine wpList_append_z rfl (.tmp 46) (.tmp 49) rfl w.heap.size v' (l.take k ++ [x]) rfl hown (by have := hB2.size; simp at this; omega) _ 0 _ (l.drop k) rfl (zr_zero hd0) (fun e => by cases e) (by rw [List.length_append, hln2]; simp; omega) _ HAT.out.symm ?_; intro v3 w3 hown3 hB3))
          go_ret
          exact ⟨_, rfl, hown3, ((HB.out.alloc hsz _).trans hB2).trans hB3⟩
end Go.Proofs.YtniicgbkeifnjaaGreatDoor
namespace Go.Proofs.YtniicgbkeifnjaaGreatDoor
open Go.ChangeShapes Go.WideShapes Go.ChangeAt Go.RowKit
set_option linter.unusedVariables false
set_option maxRecDepth 100000
structure Bxd (w : World) (b : Nat) (p : PV) : Prop where
  c0 : w.cell? ⟨b, 0, none⟩ = some (.int .i64 p.nodes)
  c1 : w.cell? ⟨b, 1, none⟩ = some (.slice p.ea p.en p.ec)
  c2 : w.cell? ⟨b, 2, none⟩ = some (.int .i64 p.lanes)
  c3 : w.cell? ⟨b, 3, none⟩ = some (.int .i64 p.room)
  c4 : w.cell? ⟨b, 4, none⟩ = some (.int .i64 p.queue)
  c5 : w.cell? ⟨b, 5, none⟩ = some (.int .i64 p.rounds)
  c6 : w.cell? ⟨b, 6, none⟩ = some (.int .i64 p.every)
  c7 : w.cell? ⟨b, 7, none⟩ = some (.int .i64 p.bag)
  c8 : w.cell? ⟨b, 8, none⟩ = some (.slice p.wa p.wn p.wc)
  c9 : w.cell? ⟨b, 9, none⟩ = some (.int .u16 p.start)
  c10 : w.cell? ⟨b, 10, none⟩ = some (.slice p.na p.nn p.nc)
def PV.obj (p : PV) : Obj := .cells #[.int .i64 p.nodes, .slice p.ea p.en p.ec, .int .i64 p.lanes, .int .i64 p.room, .int .i64 p.queue, .int .i64 p.rounds, .int .i64 p.every, .int .i64 p.bag, .slice p.wa p.wn p.wc, .int .u16 p.start, .slice p.na p.nn p.nc] 31
theorem bxd_new (w : World) (p : PV) : Bxd (w.alloc p.obj) w.heap.size p := by
  unfold PV.obj
  constructor <;> simp
theorem Bxd.below {w w' : World} {b : Nat} {p : PV} (h : Bxd w b p) (k : Below w.heap.size w w') : Bxd w' b p := by
  have hb : b < w.heap.size := cell_lt h.c0
  have e : ∀ o, w'.cell? ⟨b, o, none⟩ = w.cell? ⟨b, o, none⟩ := fun o => k.cell (p := ⟨b, o, none⟩) hb
  exact ⟨(e _).trans h.c0, (e _).trans h.c1, (e _).trans h.c2, (e _).trans h.c3, (e _).trans h.c4, (e _).trans h.c5, (e _).trans h.c6, (e _).trans h.c7, (e _).trans h.c8, (e _).trans h.c9, (e _).trans h.c10⟩
theorem owns_mono {w : World} {base base' n size : Nat} {e : TypeId} {v : Value} {xs : List Value} (h : w.ownsRow base e size v n xs) (hb : base' ≤ base) : w.ownsRow base' e size v n xs := by
  refine ⟨h.1, ?_⟩
  rcases h.2 with h2 | ⟨g, cp, cur, e, h3, r⟩
  · exact .inl h2
  · exact .inr ⟨g, cp, cur, e, by omega, r⟩
theorem take_pair {l : List (Int × Int)} {k : Nat} (h : k < l.length) : l.take (k + 1) = l.take k ++ [l.getD k (0, 0)] := by
  rw [List.take_succ_eq_append_getElem h, List.getD_eq_getElem?_getD, List.getElem?_eq_getElem h]
  rfl
namespace Plan
end Plan
end Go.Proofs.YtniicgbkeifnjaaGreatDoor
namespace Go.Proofs.YtniicgbkeifnjaaGreatDoor
open Go.ChangeShapes Go.WideShapes Go.ChangeAt Go.RowKit
set_option linter.unusedVariables false
set_option maxRecDepth 100000
namespace Plan
def hopsPart (l : List Int) (v : Nat) (k : Nat) : List (Int × Int) := ((l.take k).filter fun u => decide (0 ≤ u) && decide (u < 6)).map fun u => ((v : Int), u)
theorem hopsPart_zero (l : List Int) (v : Nat) : hopsPart l v 0 = [] := rfl
theorem hopsPart_hit {l : List Int} {v k : Nat} (h : k < l.length) (h1 : 0 ≤ l.getD k 0) (h2 : l.getD k 0 < 6) : hopsPart l v (k + 1) = hopsPart l v k ++ [((v : Int), l.getD k 0)] := by
  unfold hopsPart
  have h3 : (decide (0 ≤ l.getD k 0) && decide (l.getD k 0 < 6)) = true := by simp only [h1, h2, decide_true, Bool.and_self]
  rw [take_getD h, List.filter_append, List.map_append, List.filter_cons, h3]
  simp
theorem hopsPart_miss {l : List Int} {v k : Nat} (h : k < l.length) (h1 : ¬ (0 ≤ l.getD k 0 ∧ l.getD k 0 < 6)) : hopsPart l v (k + 1) = hopsPart l v k := by
  unfold hopsPart
  have h3 : (decide (0 ≤ l.getD k 0) && decide (l.getD k 0 < 6)) = false := by
    rw [Bool.and_eq_false_iff]
    by_cases h2 : 0 ≤ l.getD k 0
    · exact .inr (decide_eq_false (fun h => h1 ⟨h2, h⟩))
    · exact .inl (decide_eq_false h2)
  rw [take_getD h, List.filter_append, List.map_append, List.filter_cons, h3]
  simp
theorem hopsPart_all (es : List (Int × Int)) (v : Nat) : hopsPart (bes es v) v (bes es v).length = hopsOf es v := by
  unfold hopsPart hopsOf
  rw [List.take_length]
theorem hopsPart_len {l : List Int} (v k : Nat) (h : Asc l) : (hopsPart l v k).length ≤ 6 := by
  have h1 := few_asc ((l.take k).filter fun u => decide (0 ≤ u) && decide (u < 6)) 0 6 ((List.Pairwise.sublist (List.take_sublist _ _) h).filter _) (fun u hu => by
    have := (List.mem_filter.1 hu).2
    simpa using this) (by omega)
  unfold hopsPart
  rw [List.length_map]
  omega
end Plan
theorem apart_of {w w2 : World} {a : Option Addr} {l : List Int} {base n size : Nat} {t : TypeId} {v : Value} {xs : List Value} (h : (a = none ∧ l = []) ∨ ∃ g, a = some ⟨g, 0, none⟩ ∧ w.heap.size ≤ g ∧ g < w2.heap.size) (ho : w.ownsRow base t size v n xs) : ∀ ad, a = some ad → v.ownBlock ≠ some ad.block := by
  intro ad e hv
  rcases h with ⟨h1, _⟩ | ⟨g, h1, h2, _⟩
  · rw [h1] at e; cases e
  · rw [h1] at e
    cases e
    have := (ho.lt _ hv).2
    simp only at this
    omega
end Go.Proofs.YtniicgbkeifnjaaGreatDoor
namespace Go.Proofs.YtniicgbkeifnjaaGreatDoor
open Go.ChangeShapes Go.WideShapes Go.ChangeAt Go.RowKit
set_option linter.unusedVariables false
set_option maxRecDepth 100000
theorem wnone_any (z : Int) (w : World) :
    Calls Tryz.prog 151 #[.int .i64 z] w fun e w' => e = .returned (.bool (!Plan.bnd z 1 5)) ∧ w' = w := by
  by_cases h1 : 1 ≤ z
  · by_cases h2 : z ≤ 5
    · have e : (!Plan.bnd z 1 5) = false := by unfold Plan.bnd; simp [h1, h2]
      have h1' : ¬ z < 1 := by omega
      have h2' : ¬ 5 < z := by omega
      rw [e]
      go_enter Tryz.func151, Tryz.ntmps151
      go_wp2_with fail
      go_ret
      exact ⟨rfl, rfl⟩
    · have e : (!Plan.bnd z 1 5) = true := by unfold Plan.bnd; simp [h2]
      have h1' : ¬ z < 1 := by omega
      have h2' : 5 < z := by omega
      rw [e]
      go_enter Tryz.func151, Tryz.ntmps151
      go_wp2_with fail
      go_ret
      exact ⟨rfl, rfl⟩
  · have e : (!Plan.bnd z 1 5) = true := by unfold Plan.bnd; simp [h1]
    have h1' : z < 1 := by omega
    rw [e]
    go_enter Tryz.func151, Tryz.ntmps151
    go_wp2_with fail
    go_ret
    exact ⟨rfl, rfl⟩
theorem zr_at {w : World} {b off n : Nat} {l : List Int} (h : Zr w (some ⟨b, off, none⟩) n l) (k : Nat) (hk : k < n) : w.cell? ⟨b, off + k, none⟩ = some (.int .i64 (l.getD k 0)) := by
  obtain ⟨b', off', e, hc⟩ := h.at hk
  cases e
  exact hc
theorem setrow_below (w : World) (g B : Nat) (xs : Array Value) (hB : B ≤ g) : Below B w (w.drew.setRow g xs) := below_setRow (Below.refl B w).drew hB xs
theorem all_bnd {ws : List Int} (h : ∀ j, j < ws.length → Plan.bnd (ws.getD j 0) 1 5 = true) : ws.all (fun x => Plan.bnd x 1 5) = true := by
  rw [List.all_eq_true]
  intro x hx
  obtain ⟨k, hk, rfl⟩ := List.getElem_of_mem hx
  have := h k hk
  rw [List.getD_eq_getElem?_getD, List.getElem?_eq_getElem hk] at this
  exact this
theorem not_all_bnd {ws : List Int} {k : Nat} (hk : k < ws.length) (h : Plan.bnd (ws.getD k 0) 1 5 = false) : ws.all (fun x => Plan.bnd x 1 5) = false := by
  rw [List.all_eq_false]
  refine ⟨ws.getD k 0, ?_, by rw [h]; exact Bool.false_ne_true⟩
  rw [List.getD_eq_getElem?_getD, List.getElem?_eq_getElem hk]
  exact List.getElem_mem hk
set_option maxHeartbeats 2000000 in
set_option maxRecDepth 100000 in
theorem widx_any {w : World} {a : Option Addr} {n c : Nat} {ws : List Int} (h : Zr w a n ws) (hn : n ≤ 17592186044416) :
    Calls Tryz.prog 201 #[.slice a n c, .func (Fn.func 151) #[] #[]] w fun e w' => ∃ z : Int, e = .returned (.int .i64 z) ∧ decide (0 ≤ z) = !(ws.all (fun x => Plan.bnd x 1 5)) ∧ w' = w := by
  have HZ : Hid (Zr w a n ws) := h
  have hln := h.1
  clear h
  go_enter Tryz.func201, Tryz.ntmps201
  go_wp2_with fail
  go_loopw [5, 8] (fun _ i wr => ∃ k : Nat, k ≤ n ∧ i = .int .i64 k ∧ (∀ j, j < k → Plan.bnd (ws.getD j 0) 1 5 = true) ∧ wr = w) (fun _ i _ => n - (intOf i).toNat)
  case atStart => exact ⟨0, Nat.zero_le _, rfl, fun j hj => by omega, rfl⟩
  case round =>
    obtain ⟨k, hk, rfl, hno, rfl⟩ := hrel
    have HN : Hid (∀ j, j < k → Plan.bnd (ws.getD j 0) 1 5 = true) := hno
    clear hno
    by_cases hkn : k < n
    · obtain ⟨b, off, ha, hc⟩ := HZ.out.at hkn
      subst ha
      obtain ⟨y, hy⟩ : ∃ y, ws.getD k 0 = y := ⟨_, rfl⟩
      have HY : Hid (ws.getD k 0 = y) := hy
      rw [hy] at hc
      clear hy
      cases hb : Plan.bnd y 1 5 with
      | true =>
        go_wp2_with (go_at_call 151; refine (wnone_any _ _).mono ?_; rintro e w' ⟨rfl, rfl⟩)
        go_roundw
        case rel =>
          have R : ∀ j, j < k + 1 → Plan.bnd (ws.getD j 0) 1 5 = true := fun j hj => by
            by_cases e : j = k
            · rw [e, HY.out]; exact hb
            · exact HN.out j (by omega)
          first | exact ⟨k + 1, by omega, by go_num, R, rfl⟩ | exact ⟨k + 1, by omega, by go_num, R, trivial⟩ | ((repeat apply Exists.intro); exact ⟨⟨k + 1, by omega, by go_num, R, rfl⟩, rfl⟩)
        case measure => simp [intOf]; omega
      | false =>
        have HF : Hid (ws.all (fun x => Plan.bnd x 1 5) = false) := not_all_bnd (k := k) (by omega) (by rw [HY.out]; exact hb)
        go_wp2_with (go_at_call 151; refine (wnone_any _ _).mono ?_; rintro e w' ⟨rfl, rfl⟩)
        go_ret
        exact ⟨(k : Int), rfl, by rw [HF.out]; exact decide_eq_true (by omega), rfl⟩
    · obtain rfl : k = n := by omega
      have HF : Hid (ws.all (fun x => Plan.bnd x 1 5) = true) := all_bnd (fun j hj => HN.out j (by omega))
      go_wp2_with fail
      go_ret
      exact ⟨-1, rfl, by rw [HF.out]; rfl, rfl⟩
theorem wcont_any {w : World} {a : Option Addr} {n c : Nat} {ws : List Int} (h : Zr w a n ws) (hn : n ≤ 17592186044416) :
    Calls Tryz.prog 148 #[.slice a n c, .func (Fn.func 151) #[] #[]] w fun e w' => e = .returned (.bool (!(ws.all (fun x => Plan.bnd x 1 5)))) ∧ w' = w := by
  have HZ : Hid (Zr w a n ws) := h
  clear h
  go_enter Tryz.func148, Tryz.ntmps148
  go_wp2_with (go_at_call 201; refine (widx_any HZ.out hn).mono ?_; rintro e w' ⟨z, rfl, hz, rfl⟩; have HD : Hid (decide (0 ≤ z) = !(ws.all (fun x => Plan.bnd x 1 5))) := hz; clear hz)
  go_ret
  exact ⟨by rw [← HD.out]; rfl, rfl⟩
set_option maxHeartbeats 1000000 in
set_option maxRecDepth 100000 in
theorem clone_zr {w : World} {b off n c : Nat} {l : List Int} (h : Zr w (some ⟨b, off, none⟩) n l) (hn : n ≤ 17592186044416) :
    Calls Tryz.prog 145 #[.slice (some ⟨b, off, none⟩) n c] w fun e w' => ∃ v, e = .returned v ∧ w'.ownsRow w.heap.size 3 1 v l.length (zcells l) ∧ Below w.heap.size w w' := by
  have q29 : ∀ (w : World) (a : Option Addr) (n c n' c' : Nat), (binOp .eql 27 (.slice a n c) (.slice none n' c')).run Tryz.prog w = .ok (.bool a.isNone) w := fun w a n c n' c' => Lib.run_eql_slice_nil w _ _ a n c n' c' Tryz.underlying27
  have HZ : Hid (Zr w (some ⟨b, off, none⟩) n l) := h
  clear h
  have HO : Hid ((w.alloc (.cells #[] 3)).ownsRow w.heap.size 3 1 (.slice (some ⟨w.heap.size, 0, none⟩) 0 0) 0 []) := World.ownsRow_made (base := w.heap.size) (e := 3) (size := 1) w #[] 0 (Nat.le_refl _) (by unfold maxLen; omega) (by simp)
  go_enter Tryz.func145, Tryz.ntmps145
  go_wp2_with (at_builtin; refine wpList_append_z rfl (.tmp 5) (.tmp 6) rfl w.heap.size (.slice (some ⟨w.heap.size, 0, none⟩) 0 0) [] rfl HO.out (by simp) (some ⟨b, off, none⟩) n c l rfl (HZ.out.below (fresh _ _)) (fun e => by cases e) (by simp; omega) l rfl ?_; intro v' w2 hown hB2)
  go_ret
  exact ⟨_, rfl, hown, (fresh _ _).trans hB2⟩
theorem fill_any {w : World} {q g1 g2 n c1 B : Nat} {l : List Int} {cur : Array Value} (h0 : w.cell? ⟨q, 0, none⟩ = some (.slice (some ⟨g1, 0, none⟩) n c1)) (h1 : w.cell? ⟨q, 1, none⟩ = some (.slice (some ⟨g2, 0, none⟩) n n)) (hz : Zr w (some ⟨g1, 0, none⟩) n l) (hg : w.heap[g2]? = some (.cells cur 3 (0, 0))) (hcur : cur.size = n) (hB : B ≤ g2) :
    Calls Tryz.prog 152 #[.pointer (some ⟨q, 0, none⟩)] w fun e w' => e = .returned (.tuple #[]) ∧ Below B w w' := by
  have hl := hz.1
  have hsz : (Tryz.prog.info? 3).map (·.size) = some 1 := by kernel_rfl
  have hcp := run_copy_row (P := Tryz.prog) w.drew 27 27 3 3 g2 0 n n ⟨g1, 0, none⟩ n c1 cur 3 (zcells l) Tryz.underlying27 hsz hg (by rw [zcells_len, hl]; exact (Nat.min_self n).symm) (fun j v hv => by
    have hj : j < l.length := by
      have := (List.getElem?_eq_some_iff.1 hv).1
      rwa [zcells_len] at this
    rw [zcells_at hj] at hv
    rw [add_lit, ← hv]
    exact zr_at hz j (by omega)) (by rw [zcells_len, hl, hcur]; omega) (zcells_one l)
  rw [zcells_len, hl] at hcp
  obtain ⟨U, hU⟩ : ∃ U, w.drew.setRow g2 (cur.toList.take 0 ++ zcells l ++ cur.toList.drop (0 + n)).toArray = U := ⟨_, rfl⟩
  have HB : Hid (Below B w U) := by rw [← hU]; exact setrow_below w g2 B _ hB
  rw [hU] at hcp
  clear hU hz hg hcur hl hsz
  go_enter Tryz.func152, Tryz.ntmps152
  go_wp2_with fail
  go_region
  refine bodyPost_end (results_none rfl _ _ _) rfl ?_
  exact ⟨rfl, HB.out⟩
set_option maxHeartbeats 2000000 in
set_option maxRecDepth 100000 in
theorem wheel_any {w : World} {a : Option Addr} {n c : Nat} {ws : List Int} (h : Zr w a n ws) (hn : n ≤ 17592186044416) :
    Calls Tryz.prog 91 #[.slice a n c] w fun e w' => ∃ q : Option Addr, e = .returned (.pointer q) ∧ (q.isNone = !Plan.wsOk ws) ∧ Below w.heap.size w w' := by
  have HZ : Hid (Zr w a n ws) := h
  have hln := h.1
  clear h
  by_cases h1 : n < 1
  · have HB : Hid (Plan.wsOk ws = false) := by show _ = _; unfold Plan.wsOk; rw [hln]; simp; omega
    have h1' : (n : Int) < 1 := by omega
    go_enter Tryz.func91, Tryz.ntmps91
    go_wp2_with fail
    go_ret
    exact ⟨none, rfl, by rw [HB.out]; rfl, Below.refl _ _⟩
  · have h1' : ¬ (n : Int) < 1 := by omega
    by_cases h3 : 3 < n
    · have HB : Hid (Plan.wsOk ws = false) := by show _ = _; unfold Plan.wsOk; rw [hln]; simp; omega
      have h3' : (3 : Int) < n := by omega
      go_enter Tryz.func91, Tryz.ntmps91
      go_wp2_with fail
      go_ret
      exact ⟨none, rfl, by rw [HB.out]; rfl, Below.refl _ _⟩
    · have h3' : ¬ (3 : Int) < n := by omega
      have hn1 : 1 ≤ n := by omega
      obtain ⟨b, off, ha, _⟩ := HZ.out.at (k := 0) (by omega)
      subst ha
      cases hb : ws.all (fun x => Plan.bnd x 1 5) with
      | false =>
        have HB : Hid (Plan.wsOk ws = false) := by show _ = _; unfold Plan.wsOk; rw [hb]; rfl
        have HA : Hid (ws.all (fun x => Plan.bnd x 1 5) = false) := hb
        clear hb
        go_enter Tryz.func91, Tryz.ntmps91
        go_wp2_with (go_at_call 148; refine (wcont_any HZ.out hn).mono ?_; rintro e w' ⟨rfl, rfl⟩; rw [HA.out])
        go_ret
        exact ⟨none, rfl, by rw [HB.out]; rfl, Below.refl _ _⟩
      | true =>
        have HB : Hid (Plan.wsOk ws = true) := by show _ = _; unfold Plan.wsOk; rw [hb, hln]; simp; omega
        have HA : Hid (ws.all (fun x => Plan.bnd x 1 5) = true) := hb
        have hmk := run_make_row' (P := Tryz.prog) 27 3 (.int .i64 0) 8 Tryz.underlying27 infoI rfl .i64 .i64 n (by omega) (by omega)
        clear hb
        go_enter Tryz.func91, Tryz.ntmps91
        go_wp2_with (go_at_call 148; refine (wcont_any HZ.out hn).mono ?_; rintro e w' ⟨rfl, rfl⟩; rw [HA.out])
        go_region_with (go_at_call 145; refine (clone_zr (l := ws) (HZ.out.below (by first | exact (Below.refl _ _).drew | exact ((Below.refl _ _).drew.alloc (Nat.le_refl _) _) | exact ((fresh _ _).drew)) ) hn).mono ?_; rintro e w2 ⟨v2, rfl, hown2, hB2⟩; obtain ⟨a2, cap2, rfl, hz2, _, _, _, hg2⟩ := zr_of_owns hown2)
        all_goals
          obtain ⟨g, hg, hgl⟩ : ∃ g, a2 = some ⟨g, 0, none⟩ ∧ g < w2.heap.size := by
            rcases hg2 with ⟨_, e⟩ | ⟨g, h, _, h2⟩
            · rw [e] at hln; simp at hln; omega
            · exact ⟨g, h, h2⟩
          subst hg
          rw [hln] at hz2
          first
            | (have hbw : Below w'.heap.size w' w2 := (Below.refl _ w').drew.trans (hB2.mono (Nat.le_refl _))
               have HF : Hid (∀ W, W = (w2.alloc (.cells (madeCells #[.int .i64 0] n) 3)).alloc (.cells #[.slice (some ⟨g, 0, none⟩) n cap2, .slice (some ⟨w2.heap.size, 0, none⟩) n n, .int .i64 0] 232) → Calls Tryz.prog 152 #[.pointer (some ⟨w2.heap.size + 1, 0, none⟩)] W fun e W' => e = .returned (.tuple #[]) ∧ Below w'.heap.size w' W') := fun W hW => by
                 subst hW
                 refine (fill_any (g1 := g) (g2 := w2.heap.size) (n := n) (c1 := cap2) (l := ws) (cur := madeCells #[.int .i64 0] n) (B := w'.heap.size) (by simp) (by simp) ((hz2.below (fresh _ _)).below (fresh _ _)) ((Below.heap_alloc _ _ _ (by simp)).trans (World.alloc_heap_new w2 _)) (by simp [madeCells]) hbw.size).mono ?_
                 rintro e W' ⟨rfl, h⟩
                 exact ⟨rfl, ((hbw.alloc hbw.size _).alloc (Nat.le_trans hbw.size (by simp)) _).trans h⟩
               clear hz2 hown2 hB2 hbw hg2
               go_wp2_with (go_at_call 152; refine (HF.out _ rfl).mono ?_; rintro e w3 ⟨rfl, hB3⟩; have HB3 : Hid (Below w'.heap.size w' w3) := hB3; clear hB3)
               go_ret
               exact ⟨_, rfl, by rw [HB.out]; rfl, HB3.out⟩)
            | (have hmd : w2.heap[w'.heap.size]? = some (.cells (madeCells #[.int .i64 0] n) 3 (0, 0)) := (hB2.block w'.heap.size (by simp)).trans (World.alloc_heap_new w'.drew _)
               have hbw : Below w'.heap.size w' w2 := ((Below.refl _ w').drew.alloc (Nat.le_refl _) (.cells (madeCells #[.int .i64 0] n) 3)).trans (hB2.mono (by simp))
               have HF : Hid (∀ W, W = w2.alloc (.cells #[.slice (some ⟨g, 0, none⟩) n cap2, .slice (some ⟨w'.heap.size, 0, none⟩) n n, .int .i64 0] 232) → Calls Tryz.prog 152 #[.pointer (some ⟨w2.heap.size, 0, none⟩)] W fun e W' => e = .returned (.tuple #[]) ∧ Below w'.heap.size w' W') := fun W hW => by
                 subst hW
                 refine (fill_any (g1 := g) (g2 := w'.heap.size) (n := n) (c1 := cap2) (l := ws) (cur := madeCells #[.int .i64 0] n) (B := w'.heap.size) (by simp) (by simp) (hz2.below (fresh _ _)) ((Below.heap_alloc _ _ _ (by have := hB2.size; simp at this; omega)).trans hmd) (by simp [madeCells]) (Nat.le_refl _)).mono ?_
                 rintro e W' ⟨rfl, h⟩
                 exact ⟨rfl, (hbw.alloc hbw.size _).trans h⟩
               clear hmd hz2 hown2 hB2 hbw hg2
               go_wp2_with (go_at_call 152; refine (HF.out _ rfl).mono ?_; rintro e w3 ⟨rfl, hB3⟩; have HB3 : Hid (Below w'.heap.size w' w3) := hB3; clear hB3)
               go_ret
               exact ⟨_, rfl, by rw [HB.out]; rfl, HB3.out⟩)
            | (have hbw : Below w'.heap.size w' w2 := (Below.refl _ w').drew.trans (hB2.mono (Nat.le_refl _))
               have HF : Hid (∀ W, W = ((w2.alloc (.cells (madeCells #[.int .i64 0] n) 3)).alloc (.cells #[.slice (some ⟨g, 0, none⟩) n cap2, .slice (some ⟨w2.heap.size, 0, none⟩) n n, .int .i64 0] 232)).drew → Calls Tryz.prog 152 #[.pointer (some ⟨w2.heap.size + 1, 0, none⟩)] W fun e W' => e = .returned (.tuple #[]) ∧ Below w'.heap.size w' W') := fun W hW => by
                 subst hW
                 refine (fill_any (g1 := g) (g2 := w2.heap.size) (n := n) (c1 := cap2) (l := ws) (cur := madeCells #[.int .i64 0] n) (B := w'.heap.size) (by simp) (by simp) (((hz2.below (fresh _ _)).below (fresh _ _)).below (Below.refl _ _).drew) ((Below.heap_alloc _ _ _ (by simp)).trans (World.alloc_heap_new w2 _)) (by simp [madeCells]) hbw.size).mono ?_
                 rintro e W' ⟨rfl, h⟩
                 exact ⟨rfl, (((hbw.alloc hbw.size _).alloc (Nat.le_trans hbw.size (by simp)) _).drew).trans h⟩
               clear hz2 hown2 hB2 hbw hg2
               go_wp2_with (go_at_call 152; refine (HF.out _ rfl).mono ?_; rintro e w3 ⟨rfl, hB3⟩; have HB3 : Hid (Below w'.heap.size w' w3) := hB3; clear hB3)
               go_ret
               exact ⟨_, rfl, by rw [HB.out]; rfl, HB3.out⟩)
end Go.Proofs.YtniicgbkeifnjaaGreatDoor
namespace Go.Proofs.YtniicgbkeifnjaaGreatDoor.M
open Go.ChangeShapes Go.WideShapes Go.ChangeAt Go.RowKit
set_option linter.unusedVariables false
set_option maxRecDepth 100000
theorem ret_bool {a b : Bool} (h : a = b) : Ending.returned (.bool a) = .returned (.bool b) := by rw [h]
theorem ret_int {k : IntKind} {a b : Int} (h : a = b) : Ending.returned (.int k a) = .returned (.int k b) := by rw [h]
def hasB (m : Nat) (i : Int) : Bool := decide (0 ≤ i ∧ i < 16) && m.testBit i.toNat
theorem hasB_nat {m i : Nat} (h : i < 16) : hasB m (i : Nat) = m.testBit i := by
  unfold hasB
  rw [decide_eq_true (by omega)]
  simp
theorem hasB_out {m : Nat} {i : Int} (h : i < 0 ∨ 16 ≤ i) : hasB m i = false := by
  unfold hasB
  rw [decide_eq_false (by omega)]
  rfl
theorem bit_eq (m i : Nat) : (m / 2 ^ i % 2 == 1) = m.testBit i := by
  rw [Nat.testBit_eq_decide_div_mod_eq]
  rfl
set_option maxHeartbeats 400000 in
theorem has_any (m : Nat) (hm : m < 65536) (i : Int) (w : World) :
    Calls Tryz.prog 245 #[.int .u16 m, .int .i64 i] w fun e w' => e = .returned (.bool (hasB m i)) ∧ w' = w := by
  by_cases h0 : i < 0
  · have HR := hasB_out (m := m) (.inl h0)
    rw [HR]
    clear HR
    go_enter Tryz.func245, Tryz.ntmps245
    go_wp2
    go_ret
    exact ⟨rfl, rfl⟩
  · by_cases h1 : 16 ≤ i
    · have HR := hasB_out (m := m) (.inr h1)
      rw [HR]
      clear HR
      go_enter Tryz.func245, Tryz.ntmps245
      go_wp2
      go_ret
      exact ⟨rfl, rfl⟩
    · obtain ⟨k, rfl⟩ := Int.eq_ofNat_of_zero_le (show 0 ≤ i by omega)
      have hk : k < 16 := by omega
      rw [hasB_nat hk]
      clear h0 h1
      go_enter Tryz.func245, Tryz.ntmps245
      go_wp2
      go_ret
      refine ⟨ret_bool ?_, rfl⟩
      have hd : m / 2 ^ k < 65536 := Nat.lt_of_le_of_lt (Nat.div_le_self _ _) hm
      have e := u16_and_nat (m / 2 ^ k) 1 hd (by omega)
      rw [show ((m / 2 ^ k : Nat) : Int) = (m : Int) / 2 ^ k by simp, show ((1 : Nat) : Int) = 1 from rfl] at e
      rw [e, Nat.and_one_is_mod, ← bit_eq]
      rcases Nat.mod_two_eq_zero_or_one (m / 2 ^ k) with h | h <;> rw [h] <;> rfl
set_option maxHeartbeats 400000 in
theorem isSize_any (n : Int) (w : World) :
    Calls Tryz.prog 209 #[.int .i64 n] w fun e w' => e = .returned (.bool (decide (1 ≤ n ∧ n ≤ 16))) ∧ w' = w := by
  by_cases h0 : 1 ≤ n
  · by_cases h1 : n ≤ 16
    · rw [decide_eq_true ⟨h0, h1⟩]
      go_enter Tryz.func209, Tryz.ntmps209
      go_wp2
      go_ret
      exact ⟨rfl, rfl⟩
    · rw [decide_eq_false (by omega)]
      go_enter Tryz.func209, Tryz.ntmps209
      go_wp2
      go_ret
      exact ⟨rfl, rfl⟩
  · rw [decide_eq_false (by omega)]
    go_enter Tryz.func209, Tryz.ntmps209
    go_wp2
    go_ret
    exact ⟨rfl, rfl⟩
def Tab (w : World) : Prop := ∀ i, i < 32 → w.cell? ⟨0, i, none⟩ = some (.int .u8 (Mask.tab.getD i 0))
theorem Tab.below {w w' : World} {n : Nat} (h : Tab w) (k : Below n w w') (hn : 0 < n) : Tab w' := fun i hi => (k.cell (p := ⟨0, i, none⟩) hn).trans (h i hi)
theorem cell_lt {w : World} {a : Addr} {v : Value} (h : w.cell? a = some v) : a.block < w.heap.size := by
  rcases Nat.lt_or_ge a.block w.heap.size with h' | h'
  · exact h'
  · simp [World.cell?, Array.getElem?_eq_none h'] at h
theorem Tab.lt {w : World} (h : Tab w) : 0 < w.heap.size := cell_lt (h 0 (by omega))
set_option maxHeartbeats 1000000 in
theorem ctz_any (m i q : Nat) (he : m = 2 ^ i * (2 * q + 1)) (hm : m < 65536) (w : World) (ht : Tab w) :
    Calls Tryz.prog 241 #[.int .u16 m] w fun e w' => e = .returned (.int .i64 (i : Nat)) ∧ w' = w := by
  have hi : i < 16 := Mask.low_lt (he ▸ hm)
  have hpos : 0 < m := by rw [he]; exact Nat.mul_pos (Nat.two_pow_pos i) (by omega)
  have e1 : bits .and .u16 (m : Int) (IntKind.u16.wrap (-(m : Int))) = ((2 ^ i : Nat) : Int) := by
    rw [IntKind.wrap_u16, show -(m : Int) % 65536 = ((65536 - m : Nat) : Int) by omega, u16_and_nat _ _ hm (by omega), he, Mask.alone_is i q (he ▸ hm)]
  obtain ⟨t1, t2⟩ := Mask.tab_at i hi
  have hc := ht _ t1
  rw [t2] at hc
  obtain ⟨p, hp⟩ : ∃ p, 2 ^ i = p := ⟨_, rfl⟩
  have hp16 : p < 65536 := by rw [← hp]; exact Nat.pow_lt_pow_right (by omega) hi
  rw [hp] at e1 t1 hc
  obtain ⟨d, hd⟩ : ∃ d, p * 125613361 % 4294967296 / 134217728 = d := ⟨_, rfl⟩
  rw [hd] at t1 hc
  have e2 : (p : Int) * 125613361 % 4294967296 / 134217728 = (d : Nat) := by rw [← hd]; simp
  have e3 : ((m : Int) == 0) = false := by simp; omega
  clear he t2 hd hp ht
  go_enter Tryz.func241, Tryz.ntmps241
  go_wp2
  go_ret
  exact ⟨rfl, rfl⟩
theorem drewN_below (w : World) (n : Nat) : Below w.heap.size w (w.drewN n) := ⟨rfl, rfl, rfl, Nat.le_refl _, fun _ _ => rfl⟩
def pickV (m : Nat) (f n : Int) : Int := if 1 ≤ n ∧ n ≤ 16 ∧ 0 ≤ f ∧ f < n then Mask.pick m f.toNat n.toNat else -1
theorem pickV_in {m f n : Nat} (hn : n ≤ 16) (hf : f < n) : pickV m f n = Mask.pick m f n := by
  unfold pickV
  rw [if_pos (by omega)]
  rfl
theorem pickV_out {m : Nat} {f n : Int} (h : ¬ (1 ≤ n ∧ n ≤ 16 ∧ 0 ≤ f ∧ f < n)) : pickV m f n = -1 := by
  unfold pickV
  rw [if_neg h]
end Go.Proofs.YtniicgbkeifnjaaGreatDoor.M
namespace Go.Proofs.YtniicgbkeifnjaaGreatDoor.M
open Go.ChangeShapes Go.WideShapes Go.ChangeAt Go.RowKit
set_option linter.unusedVariables false
set_option maxRecDepth 100000
def Nums (κ : IntKind) (w : World) (a : Option Addr) (len : Nat) (l : List Nat) : Prop :=
  l.length = len ∧ len ≤ maxLen ∧ (len = 0 ∨ ∃ b off, a = some ⟨b, off, none⟩ ∧ b < w.heap.size ∧ ∀ i, i < len → w.cell? ⟨b, off + i, none⟩ = some (.int κ (l.getD i 0 : Nat)))
theorem Nums.below {κ : IntKind} {w w' : World} {a : Option Addr} {len : Nat} {l : List Nat} (h : Nums κ w a len l) (hb : Below w.heap.size w w') : Nums κ w' a len l := by
  obtain ⟨h1, h2, h4⟩ := h
  refine ⟨h1, h2, ?_⟩
  rcases h4 with h4 | ⟨b, off, ha, hlt, hc⟩
  · exact .inl h4
  · exact .inr ⟨b, off, ha, Nat.lt_of_lt_of_le hlt hb.size, fun i hi => (hb.cell (p := ⟨b, off + i, none⟩) hlt).trans (hc i hi)⟩
theorem Nums.at {κ : IntKind} {w : World} {a : Option Addr} {len : Nat} {l : List Nat} (h : Nums κ w a len l) {k : Nat} (hk : k < len) : ∃ b off, a = some ⟨b, off, none⟩ ∧ w.cell? ⟨b, off + k, none⟩ = some (.int κ (l.getD k 0 : Nat)) := by
  rcases h.2.2 with h0 | ⟨b, off, ha, _, hc⟩
  · omega
  · exact ⟨b, off, ha, hc k hk⟩
theorem infoI : (Tryz.prog.info? 3).map (fun i => (i.zero, i.size, i.bytes)) = some (some (.int .i64 0), 1, 8) := by kernel_rfl
theorem infoM : (Tryz.prog.info? 28).map (fun i => (i.zero, i.size, i.bytes)) = some (some (.int .u16 0), 1, 2) := by kernel_rfl
theorem one_cell (κ : IntKind) (t : TypeId) (w : World) (z : Int) : ∀ (j : Nat) (u : Value), [Value.int κ z][j]? = some u → (w.alloc (.cells #[.int κ z] t)).cell? ((⟨w.heap.size, 0, none⟩ : Addr).add j) = some u := by
  intro j u hu
  have hj : j = 0 := by
    have := (List.getElem?_eq_some_iff.1 hu).1
    simp at this
    exact this
  subst hj
  simp at hu
  subst hu
  simp [Addr.add]
theorem one_one (κ : IntKind) (z : Int) : ∀ u ∈ [Value.int κ z], u.oneCell' = true := by
  intro u hu
  rw [List.mem_singleton] at hu
  subst hu
  rfl
def upto (m k : Nat) : List Nat := (List.range k).filter fun i => m.testBit i
end Go.Proofs.YtniicgbkeifnjaaGreatDoor.M
