/-
  Contracts and plain facts that the walks lean on (RouteLandC, RowStep, ZClone, Lays, PlanSort). Conditions: none but those that each states.
-/
import Derived.Test.YtniicgbkeifnjaaGreatDoorQ22
import Derived.Shelf.SlSortCmp.WholeK
import Derived.Shelf.Small.Bits
import Derived.Shelf.Sort.Plain
import Derived.Shelf.Bits.Mul64
import Derived.Shelf.Slices.CompactI
import Derived.Shelf.Slices.SearchI
import Derived.Shelf.Slices.In.SortNone
import Derived.Shelf.Slices.Empties
import Derived.Test.YtniicgbkeifnjaaGreatDoorProg
import Derived.Sort.OwnSortedInts
import Derived.Lib.OwnBridge
import Derived.Lib.RowBridge
import Derived.Lib.SlicesCompact
namespace Go.Proofs.YtniicgbkeifnjaaGreatDoor
open Go.ChangeShapes Go.WideShapes Go.ChangeAt Go.RowKit
set_option linter.unusedVariables false
set_option maxRecDepth 100000
structure CutAt (w : World) (a : Option Addr) (es : List (Int × Int)) (rs : List (List Int)) (n : Nat) : Prop where
  mr : Mr w a n (Route.cut es rs)
  two : 2 ≤ n ∧ n ≤ 6
  rows : rs.length = n
  row : ∀ i, i < n → (rs.getD i []).length = n
  bes : ∀ {v u : Int}, u ∈ Plan.bes es v → 0 ≤ u ∧ u < (n : Int)
theorem CutAt.below {w w' : World} {a : Option Addr} {es : List (Int × Int)} {rs : List (List Int)} {n : Nat} (h : CutAt w a es rs n) (k : Below w.heap.size w w') : CutAt w' a es rs n := ⟨h.mr.below k, h.two, h.rows, h.row, h.bes⟩
theorem CutAt.next {w : World} {a : Option Addr} {es : List (Int × Int)} {rs : List (List Int)} {n : Nat} (h : CutAt w a es rs n) {v u : Int} (hv : 0 ≤ v ∧ v < (n : Int)) (hu : 0 ≤ u ∧ u < (n : Int)) :
    ∃ b off rb ro rc, a = some ⟨b, off, none⟩ ∧ w.cell? ⟨b, off + v.toNat, none⟩ = some (.slice (some ⟨rb, ro, none⟩) n rc) ∧ w.cell? ⟨rb, ro + u.toNat, none⟩ = some (.int .i64 (if Plan.port es v (Route.nx rs v u) < 0 then -1 else Route.nx rs v u)) := by
  have hr := h.rows
  have hrw := h.row v.toNat (by omega)
  obtain ⟨b, off, ra, rc, e, hc, hz, _⟩ := h.mr.at (k := v.toNat) (by omega)
  have hl : ((Route.cut es rs).getD v.toNat []).length = n := by rw [Route.cut_at (by omega), Route.cutRow_len]; exact hrw
  rw [hl] at hc hz
  obtain ⟨rb, ro, e2, hc2⟩ := hz.at (k := u.toNat) (by omega)
  subst e2
  refine ⟨b, off, rb, ro, rc, e, hc, ?_⟩
  have hx := Route.nx_cut (es := es) (rs := rs) (v := v) (w := u) (by omega) (by rw [hrw]; exact hu)
  rw [← hx]
  exact hc2
set_option maxHeartbeats 4000000 in
set_option maxRecDepth 100000 in
theorem walk_any {w : World} {a : Option Addr} {n c : Nat} {es : List (Int × Int)} {rs : List (List Int)} (h : CutAt w a es rs n) (v u : Int) (hv : 0 ≤ v ∧ v < (n : Int)) (hu : 0 ≤ u ∧ u < (n : Int)) {R : List Int} (hR : Route.go es rs u (n - 1) v = R) :
    Calls Tryz.prog 144 #[.slice a n c, .int .i64 v, .int .i64 u] w fun e w' => ∃ x, e = .returned x ∧ w'.ownsRow w.heap.size 3 1 x R.length (zcells R) ∧ (R = [] → x = .slice none 0 0) ∧ Below w.heap.size w w' := by
  have HC : Hid (CutAt w a es rs n) := h
  have hn6 := h.two
  have HR0 : Hid (Route.behind [] (Route.go es rs u (n - 1) v) = R) := by
    show _ = _
    rw [← hR]
    unfold Route.behind
    split
    · rename_i h; rw [h]
    · rfl
  clear h hR
  have HO0 : Hid ((w.alloc (.cells #[.int .i64 v] 3)).ownsRow w.heap.size 3 1 (.slice (some ⟨w.heap.size, 0, none⟩) 1 1) ([] ++ [v]).length (zcells ([] ++ [v]))) := World.ownsRow_lit (base := w.heap.size) (e := 3) (size := 1) w #[.int .i64 v] 1 (Nat.le_refl _) (by unfold maxLen; omega) (by simp)
  have HB0 : Hid (Below w.heap.size w (w.alloc (.cells #[.int .i64 v] 3))) := fresh _ _
  go_enter Tryz.func144, Tryz.ntmps144
  go_wp2_with fail
  generalize w.alloc _ = W at HO0 HB0 ⊢
  go_loopw [7, 8] (fun out q wr => ∃ (pre : List Int) (y : Int) (f : Nat), q = .int .i64 y ∧ (0 ≤ y ∧ y < (n : Int)) ∧ pre.length + 1 + f = n ∧ Route.behind pre (Route.go es rs u f y) = R ∧ wr.ownsRow w.heap.size 3 1 out (pre ++ [y]).length (zcells (pre ++ [y])) ∧ Below w.heap.size w wr) (fun out _ _ => n - lenV out)
  case atStart => exact ⟨[], v, n - 1, rfl, hv, by simp; omega, HR0.out, HO0.out, HB0.out⟩
  case round =>
    obtain ⟨pre, y, f, rfl, hy, hf, hgo, hO, hB⟩ := hrel
    have HO : Hid (wr.ownsRow w.heap.size 3 1 u7 (pre ++ [y]).length (zcells (pre ++ [y]))) := hO
    have HB : Hid (Below w.heap.size w wr) := hB
    have HGo : Hid (Route.behind pre (Route.go es rs u f y) = R) := hgo
    have hpl : (pre ++ [y]).length = pre.length + 1 := by simp
    have hgw : w.heap.size ≤ wr.heap.size := hB.size
    clear hO hB hgo
    obtain ⟨a7, c7, hv7, hz7, hl7, hm7, hn7, hg7⟩ := zr_of_owns HO.out
    subst hv7
    obtain ⟨m, hm⟩ : ∃ m, (pre ++ [y]).length = m := ⟨_, rfl⟩
    have HO1 : Hid (wr.ownsRow w.heap.size 3 1 (.slice a7 m c7) (pre ++ [y]).length (zcells (pre ++ [y]))) := by rw [← hm]; exact HO.out
    rw [hm] at hpl hl7 ⊢
    clear hm HO
    have HPl : Hid (m = pre.length + 1) := hpl
    have HF0 : Hid (pre.length + 1 + f = n) := hf
    clear hpl hf hz7 hg7
    by_cases hyu : y = u
    · have HF : Hid (R = pre ++ [y]) := by
        show _ = _
        rw [← HGo.out, hyu, Route.behind_self]
      have g : (y != u) = false := by simpa using hyu
      clear hyu
      go_wp2_with fail
      go_ret
      rw [HF.out]
      exact ⟨_, rfl, HO1.out, fun e => by simp at e, HB.out⟩
    · have g : (y != u) = true := by simpa using hyu
      obtain ⟨nb, no, rb, ro, rc, e1, cx1, cx2⟩ := (HC.out.below HB.out).next hy hu
      subst e1
      obtain ⟨x, hx⟩ : ∃ x, Route.nx rs y u = x := ⟨_, rfl⟩
      have HNx : Hid (Route.nx rs y u = x) := hx
      rw [hx] at cx2
      clear hx
      have HYU : Hid (y ≠ u) := hyu
      clear hyu
      by_cases hp : Plan.port es y x < 0
      · rw [if_pos hp] at cx2
        have HF : Hid (R = []) := by
          show _ = _
          rw [← HGo.out, Route.go_no HYU.out (by rw [HNx.out]; exact hp), Route.behind_nil]
        clear hp
        go_wp2_with fail
        go_ret
        rw [HF.out]
        exact ⟨_, rfl, World.ownsRow_nil _ _ _ _, fun _ => rfl, HB.out⟩
      · rw [if_neg hp] at cx2
        have HIn : Hid (0 ≤ x ∧ x < (n : Int)) := HC.out.bes (Route.port_pos' hp)
        have HPp : Hid (¬ Plan.port es y (Route.nx rs y u) < 0) := by show ¬ _; rw [HNx.out]; exact hp
        have g1 : (x == -1) = false := by have := HIn.out; simp; omega
        clear hp
        cases f with
        | zero =>
          have HF : Hid (R = []) := by
            show _ = _
            rw [← HGo.out, Route.go_zero HYU.out, Route.behind_nil]
          have g2 : ((m : Int) == (n : Int)) = true := by have := HPl.out; have := HF0.out; simp; omega
          have g3 : (m == n) = true := by have := HPl.out; have := HF0.out; simp; omega
          go_wp2_with fail
          go_ret
          rw [HF.out]
          exact ⟨_, rfl, World.ownsRow_nil _ _ _ _, fun _ => rfl, HB.out⟩
        | succ f =>
          have hmn : m < n := by have := HPl.out; have := HF0.out; omega
          have g2 : ((m : Int) == (n : Int)) = false := by simp; omega
          have g3 : (m == n) = false := by simp; omega
          have HF : Hid (Route.behind (pre ++ [y]) (Route.go es rs u f x) = R) := by
            show _ = _
            rw [← HGo.out, Route.behind_on pre HYU.out HPp.out, HNx.out]
          have hm6 : m ≤ 6 := by omega
          have HML : Hid ((pre ++ [y]).length = m) := by show _ = _; rw [HPl.out]; simp
          go_wp2_with (at_builtin; refine wpList_append_z rfl (.tmp 31) (.tmp 33) rfl w.heap.size (.slice a7 m c7) (pre ++ [y]) rfl (owns_below HO1.out (fresh _ _)) (by simp; omega) (some ⟨wr.heap.size, 0, none⟩) 1 1 [x] rfl (zr_one wr _) (fun e => by cases e) (by rw [HML.out]; omega) _ rfl ?_; intro v8 w8 hown8 hB8)
          have HO8 : Hid (w8.ownsRow w.heap.size 3 1 v8 (pre ++ [y] ++ [x]).length (zcells (pre ++ [y] ++ [x]))) := hown8
          have HBz : Hid (Below w.heap.size w w8) := (HB.out.alloc hgw _).trans hB8
          obtain ⟨a8, c8, hv8, _⟩ := zr_of_owns hown8
          have hl8 : (pre ++ [y] ++ [x]).length = m + 1 := by rw [List.length_append, HML.out]; rfl
          rw [hl8] at hv8
          subst hv8
          go_roundw
          case rel =>
            have R1 : (pre ++ [y]).length + 1 + f = n := by have := HML.out; have := HPl.out; have := HF0.out; omega
            first | exact ⟨pre ++ [y], x, f, rfl, HIn.out, R1, HF.out, HO8.out, HBz.out⟩ | ((repeat apply Exists.intro); exact ⟨⟨rfl, HIn.out, R1, HF.out, HO8.out, HBz.out⟩, rfl⟩)
          case measure => simp [lenV]; omega
def Route.come (es : List (Int × Int)) (rs : List (List Int)) (n : Nat) : Prop := ∀ v, v < n → ∀ u, u < n → Route.go es rs (u : Int) (n - 1) (v : Int) ≠ []
set_option maxHeartbeats 4000000 in
set_option maxRecDepth 100000 in
theorem allcome_any {w : World} {a : Option Addr} {n c : Nat} {es : List (Int × Int)} {rs : List (List Int)} (h : CutAt w a es rs n) :
    Calls Tryz.prog 87 #[.slice a n c] w fun e w' => ∃ b : Bool, e = .returned (.bool b) ∧ (b = true → Route.come es rs n) ∧ (b = false → ∃ v, v < n ∧ ∃ u, u < n ∧ Route.go es rs (u : Int) (n - 1) (v : Int) = []) ∧ Below w.heap.size w w' := by
  have HC : Hid (CutAt w a es rs n) := h
  have hn6 := h.two
  have q29 : ∀ (w : World) (a : Option Addr) (n c n' c' : Nat), (binOp .eql 27 (.slice a n c) (.slice none n' c')).run Tryz.prog w = .ok (.bool a.isNone) w := fun w a n c n' c' => Lib.run_eql_slice_nil w _ _ a n c n' c' Tryz.underlying27
  have HQ : Hid _ := q29
  clear h q29
  go_enter Tryz.func87, Tryz.ntmps87
  go_wp2_with fail
  go_loopw [7] (fun i wr => ∃ k : Nat, k ≤ n ∧ i = .int .i64 k ∧ (∀ v, v < k → ∀ u, u < n → Route.go es rs (u : Int) (n - 1) (v : Int) ≠ []) ∧ Below w.heap.size w wr) (fun i _ => n - (intOf i).toNat)
  case atStart => exact ⟨0, Nat.zero_le _, rfl, fun v hv => by omega, Below.refl _ _⟩
  case round =>
    obtain ⟨k, hk, rfl, hno, hB⟩ := hrel
    have HN : Hid (∀ v, v < k → ∀ u, u < n → Route.go es rs (u : Int) (n - 1) (v : Int) ≠ []) := hno
    have HB : Hid (Below w.heap.size w wr) := hB
    clear hno hB
    by_cases hkn : k < n
    · go_wp2_with fail
      go_loopw [12] (fun i wi => ∃ j : Nat, j ≤ n ∧ i = .int .i64 j ∧ (∀ u, u < j → Route.go es rs (u : Int) (n - 1) (k : Int) ≠ []) ∧ Below w.heap.size w wi) (fun i _ => n - (intOf i).toNat)
      case atStart => exact ⟨0, Nat.zero_le _, rfl, fun v hv => by omega, HB.out⟩
      case round =>
        obtain ⟨j, hj, rfl, hno2, hB2⟩ := hrel
        have HN2 : Hid (∀ u, u < j → Route.go es rs (u : Int) (n - 1) (k : Int) ≠ []) := hno2
        have HB2 : Hid (Below w.heap.size w wr) := hB2
        clear hno2 hB2
        by_cases hjn : j < n
        · obtain ⟨R, hR⟩ : ∃ R, Route.go es rs (j : Int) (n - 1) (k : Int) = R := ⟨_, rfl⟩
          have HR : Hid (Route.go es rs (j : Int) (n - 1) (k : Int) = R) := hR
          have HCall : Hid _ := walk_any (c := c) (HC.out.below HB2.out) (k : Int) (j : Int) (by omega) (by omega) hR
          clear hR
          cases R with
          | nil =>
            have HF : Hid (∃ v, v < n ∧ ∃ u, u < n ∧ Route.go es rs (u : Int) (n - 1) (v : Int) = []) := ⟨k, hkn, j, hjn, HR.out⟩
            go_wp2_with fail
            refine Calls.mono HCall.out ?_
            rintro e w3 ⟨x, rfl, hO3, hE3, hB3⟩
            obtain rfl := hE3 (by trivial)
            have HB3 : Hid (Below w.heap.size w w3) := later HB2.out hB3
            have q29 := HQ.out
            clear hO3 hE3 hB3 HCall
            go_wp2_with fail
            go_ret
            exact ⟨false, rfl, fun e => (by cases e), fun _ => HF.out, HB3.out⟩
          | cons r0 R =>
            go_wp2_with fail
            refine Calls.mono HCall.out ?_
            rintro e w3 ⟨x, rfl, hO3, hE3, hB3⟩
            obtain ⟨a3, c3, rfl, _, _, _, _, ⟨_, h0⟩ | ⟨g3, rfl, _⟩⟩ := zr_of_owns hO3
            · cases h0
            have HB3 : Hid (Below w.heap.size w w3) := later HB2.out hB3
            have HN3 : Hid (∀ u, u < j + 1 → Route.go es rs (u : Int) (n - 1) (k : Int) ≠ []) := fun u hu => by
              by_cases e : u = j
              · subst e
                rw [HR.out]
                exact List.cons_ne_nil _ _
              · exact HN2.out u (by omega)
            have q29 := HQ.out
            clear hO3 hE3 hB3 HCall
            go_wp2_with fail
            go_roundw
            case rel => first | exact ⟨j + 1, by omega, by go_num, HN3.out, HB3.out⟩ | ((repeat apply Exists.intro); exact ⟨⟨j + 1, by omega, by go_num, HN3.out, HB3.out⟩, rfl⟩)
            case measure => simp [intOf]; omega
        · obtain rfl : j = n := by omega
          have HN3 : Hid (∀ v, v < k + 1 → ∀ u, u < j → Route.go es rs (u : Int) (j - 1) (v : Int) ≠ []) := fun v hv => by
            by_cases e : v = k
            · subst e
              exact HN2.out
            · exact HN.out v (by omega)
          go_wp2_with fail
          go_roundw
          case rel => first | exact ⟨k + 1, by omega, by go_num, HN3.out, HB2.out⟩ | ((repeat apply Exists.intro); exact ⟨⟨k + 1, by omega, by go_num, HN3.out, HB2.out⟩, rfl⟩)
          case measure => simp [intOf]; omega
    · obtain rfl : k = n := by omega
      go_wp2_with fail
      go_ret
      exact ⟨true, rfl, fun _ => HN.out, fun e => (by cases e), HB.out⟩
end Go.Proofs.YtniicgbkeifnjaaGreatDoor
namespace Go.Proofs.YtniicgbkeifnjaaGreatDoor
open Go.ChangeShapes Go.WideShapes Go.ChangeAt Go.RowKit
set_option linter.unusedVariables false
set_option maxRecDepth 100000
theorem infoRR : (Tryz.prog.info? 27).map (fun i => (i.zero, i.size, i.bytes)) = some (some (.slice none 0 0), 1, 24) := by kernel_rfl
theorem RowA.keep {F : Nat → Prop} {w w' : World} {base : Nat} {r : Option Nat} {x : Value} {l : List Int} (h : RowA w base r x l) (k : Sans F w w') (hF : ∀ j, base ≤ j → j < w.heap.size → r ≠ some j → ¬ F j) : RowA w' base r x l := by
  obtain ⟨ra, rc, h1, h2, h3, h4, h5, h6⟩ := h
  exact ⟨ra, rc, h1, h2.sans k (fun ad e => hF _ (h6 ad e).1 (h6 ad e).2.1 (h6 ad e).2.2), h3, h4, h5, fun ad e => ⟨(h6 ad e).1, Nat.lt_of_lt_of_le (h6 ad e).2.1 k.size, (h6 ad e).2.2⟩⟩
theorem made_row (w : World) (n : Nat) (hn : n ≤ 200) : (w.alloc (.cells (madeCells #[.int .i64 0] n) 3)).ownsRow w.heap.size 3 1 (.slice (some ⟨w.heap.size, 0, none⟩) n n) n (madeCells #[.int .i64 0] n).toList :=
  World.ownsRow_lit w _ n (Nat.le_refl _) (by unfold maxLen; omega) (by rw [size_madeCells]; omega)
theorem made_rows (w : World) (n : Nat) (hn : n ≤ 200) : (w.alloc (.cells (madeCells #[.slice none 0 0] n) 27)).ownsRow w.heap.size 27 1 (.slice (some ⟨w.heap.size, 0, none⟩) n n) n (madeCells #[.slice none 0 0] n).toList :=
  World.ownsRow_lit w _ n (Nat.le_refl _) (by unfold maxLen; omega) (by rw [size_madeCells]; omega)
end Go.Proofs.YtniicgbkeifnjaaGreatDoor
namespace Go.Proofs.YtniicgbkeifnjaaGreatDoor
open Go.ChangeShapes Go.WideShapes Go.ChangeAt Go.RowKit
set_option linter.unusedVariables false
set_option maxRecDepth 100000
set_option maxHeartbeats 1000000 in
set_option maxRecDepth 100000 in
theorem zclone_some {w : World} {ad : Addr} {n c : Nat} {l : List Int} (h : Zr w (some ad) n l) (hn : n ≤ 17592186044416) :
    Calls Tryz.prog 145 #[.slice (some ad) n c] w fun e w' => ∃ v, e = .returned v ∧ w'.ownsRow w.heap.size 3 1 v l.length (zcells l) ∧ Below w.heap.size w w' := by
  have q29 : ∀ (w : World) (a : Option Addr) (n c n' c' : Nat), (binOp .eql 27 (.slice a n c) (.slice none n' c')).run Tryz.prog w = .ok (.bool a.isNone) w := fun w a n c n' c' => Lib.run_eql_slice_nil w _ _ a n c n' c' Tryz.underlying27
  have HZ : Hid (Zr w (some ad) n l) := h
  clear h
  have HO : Hid ((w.alloc (.cells #[] 3)).ownsRow w.heap.size 3 1 (.slice (some ⟨w.heap.size, 0, none⟩) 0 0) 0 []) := World.ownsRow_made (base := w.heap.size) (e := 3) (size := 1) w #[] 0 (Nat.le_refl _) (by unfold maxLen; omega) (by simp)
  go_enter Tryz.func145, Tryz.ntmps145
  go_wp2_with (at_builtin; refine wpList_append_z rfl (.tmp 5) (.tmp 6) rfl w.heap.size (.slice (some ⟨w.heap.size, 0, none⟩) 0 0) [] rfl HO.out (by simp) (some ad) n c l rfl (HZ.out.below (fresh _ _)) (fun e => by cases e) (by simp; omega) l rfl ?_; intro v' w2 hown hB2)
  go_ret
  exact ⟨_, rfl, hown, (fresh _ _).trans hB2⟩
set_option maxRecDepth 100000 in
theorem zclone_nil (w : World) (n c : Nat) :
    Calls Tryz.prog 145 #[.slice none n c] w fun e w' => e = .returned (.slice none 0 0) ∧ w' = w := by
  have q29 : ∀ (w : World) (a : Option Addr) (n c n' c' : Nat), (binOp .eql 27 (.slice a n c) (.slice none n' c')).run Tryz.prog w = .ok (.bool a.isNone) w := fun w a n c n' c' => Lib.run_eql_slice_nil w _ _ a n c n' c' Tryz.underlying27
  go_enter Tryz.func145, Tryz.ntmps145
  go_wp2_with fail
  go_ret
  exact ⟨rfl, rfl⟩
theorem zclone_any {w : World} {a : Option Addr} {n c : Nat} {l : List Int} (h : Zr w a n l) (hn : n ≤ 17592186044416) (hz : a = none → n = 0) :
    Calls Tryz.prog 145 #[.slice a n c] w fun e w' => ∃ v, e = .returned v ∧ w'.ownsRow w.heap.size 3 1 v l.length (zcells l) ∧ Below w.heap.size w w' := by
  cases a with
  | some ad => exact zclone_some h hn
  | none =>
    have h0 := hz rfl
    subst h0
    have hl := List.length_eq_zero_iff.1 h.1
    subst hl
    refine (zclone_nil w 0 c).mono ?_
    rintro e w' ⟨rfl, rfl⟩
    exact ⟨_, rfl, World.ownsRow_nil _ _ _ _, Below.refl _ _⟩
end Go.Proofs.YtniicgbkeifnjaaGreatDoor
namespace Go.Proofs
open Go.Shelf
def Tryz.lays125_ren : Go.Shelf.Ren := ⟨fun | 125 => 204 | 128 => 235 | 129 => 236 | n => n, fun | 46 => 118 | 3 => 3 | 51 => 23 | 53 => 84 | 4 => 4 | 5 => 5 | 9 => 9 | n => n, fun | n => n⟩
theorem Tryz.lays125 : Go.Proofs.Lays.n125 Tryz.prog Tryz.lays125_ren := {
  mixed := by kernel_rfl
  f125 := Tryz.func204.trans (congrArg some (by kernel_rfl))
  f128 := Tryz.func235.trans (congrArg some (by kernel_rfl))
  f129 := Tryz.func236.trans (congrArg some (by kernel_rfl))
  t3 := Tryz.underlying3
  a3 := Tryz.isAgg3
  z3 := Tryz.sizeOf3
  v3 := Tryz.zeroValue3
  t4 := Tryz.underlying4
  a4 := Tryz.isAgg4
  z4 := Tryz.sizeOf4
  v4 := Tryz.zeroValue4
  t5 := Tryz.underlying5
  a5 := Tryz.isAgg5
  z5 := Tryz.sizeOf5
  v5 := Tryz.zeroValue5
  t9 := Tryz.underlying9
  a9 := Tryz.isAgg9
  z9 := Tryz.sizeOf9
  v9 := Tryz.zeroValue9
  t46 := Tryz.underlying118
  a46 := Tryz.isAgg118
  z46 := Tryz.sizeOf118
  v46 := Tryz.zeroValue118
  t51 := Tryz.underlying23
  a51 := Tryz.isAgg23
  z51 := Tryz.sizeOf23
  v51 := Tryz.zeroValue23
  t53 := Tryz.underlying84
  a53 := Tryz.isAgg84
  z53 := Tryz.sizeOf84
  v53 := Tryz.zeroValue84 }
def Tryz.lays189_ren : Go.Shelf.Ren := ⟨fun | 189 => 154 | 125 => 204 | 257 => 203 | 128 => 235 | 129 => 236 | 294 => 227 | 295 => 228 | 296 => 229 | 297 => 230 | 298 => 231 | 299 => 232 | 216 => 205 | 300 => 233 | 301 => 234 | 328 => 248 | 329 => 249 | 330 => 250 | 331 => 251 | 332 => 252 | 215 => 237 | 343 => 263 | n => n, fun | 28 => 27 | 3 => 3 | 46 => 118 | 0 => 0 | 51 => 23 | 53 => 84 | 4 => 4 | 183 => 295 | 182 => 294 | 131 => 235 | 5 => 5 | 9 => 9 | 218 => 310 | 222 => 313 | 228 => 323 | 229 => 324 | n => n, fun | n => n⟩
theorem Tryz.lays189 : Go.Proofs.Lays.n189 Tryz.prog Tryz.lays189_ren := {
  mixed := by kernel_rfl
  f125 := Tryz.func204.trans (congrArg some (by kernel_rfl))
  f128 := Tryz.func235.trans (congrArg some (by kernel_rfl))
  f129 := Tryz.func236.trans (congrArg some (by kernel_rfl))
  f189 := Tryz.func154.trans (congrArg some (by kernel_rfl))
  f215 := Tryz.func237.trans (congrArg some (by kernel_rfl))
  f216 := Tryz.func205.trans (congrArg some (by kernel_rfl))
  f257 := Tryz.func203.trans (congrArg some (by kernel_rfl))
  f294 := Tryz.func227.trans (congrArg some (by kernel_rfl))
  f295 := Tryz.func228.trans (congrArg some (by kernel_rfl))
  f296 := Tryz.func229.trans (congrArg some (by kernel_rfl))
  f297 := Tryz.func230.trans (congrArg some (by kernel_rfl))
  f298 := Tryz.func231.trans (congrArg some (by kernel_rfl))
  f299 := Tryz.func232.trans (congrArg some (by kernel_rfl))
  f300 := Tryz.func233.trans (congrArg some (by kernel_rfl))
  f301 := Tryz.func234.trans (congrArg some (by kernel_rfl))
  f328 := Tryz.func248.trans (congrArg some (by kernel_rfl))
  f329 := Tryz.func249.trans (congrArg some (by kernel_rfl))
  f330 := Tryz.func250.trans (congrArg some (by kernel_rfl))
  f331 := Tryz.func251.trans (congrArg some (by kernel_rfl))
  f332 := Tryz.func252.trans (congrArg some (by kernel_rfl))
  f343 := Tryz.func263.trans (congrArg some (by kernel_rfl))
  t0 := Tryz.underlying0
  a0 := Tryz.isAgg0
  z0 := Tryz.sizeOf0
  v0 := Tryz.zeroValue0
  t3 := Tryz.underlying3
  a3 := Tryz.isAgg3
  z3 := Tryz.sizeOf3
  v3 := Tryz.zeroValue3
  t4 := Tryz.underlying4
  a4 := Tryz.isAgg4
  z4 := Tryz.sizeOf4
  v4 := Tryz.zeroValue4
  t5 := Tryz.underlying5
  a5 := Tryz.isAgg5
  z5 := Tryz.sizeOf5
  v5 := Tryz.zeroValue5
  t9 := Tryz.underlying9
  a9 := Tryz.isAgg9
  z9 := Tryz.sizeOf9
  v9 := Tryz.zeroValue9
  t28 := Tryz.underlying27
  a28 := Tryz.isAgg27
  z28 := Tryz.sizeOf27
  v28 := Tryz.zeroValue27
  t46 := Tryz.underlying118
  a46 := Tryz.isAgg118
  z46 := Tryz.sizeOf118
  v46 := Tryz.zeroValue118
  t51 := Tryz.underlying23
  a51 := Tryz.isAgg23
  z51 := Tryz.sizeOf23
  v51 := Tryz.zeroValue23
  t53 := Tryz.underlying84
  a53 := Tryz.isAgg84
  z53 := Tryz.sizeOf84
  v53 := Tryz.zeroValue84
  t131 := Tryz.underlying235
  a131 := Tryz.isAgg235
  z131 := Tryz.sizeOf235
  v131 := Tryz.zeroValue235
  t182 := Tryz.underlying294
  a182 := Tryz.isAgg294
  z182 := Tryz.sizeOf294
  v182 := Tryz.zeroValue294
  t183 := Tryz.underlying295
  a183 := Tryz.isAgg295
  z183 := Tryz.sizeOf295
  v183 := Tryz.zeroValue295
  t218 := Tryz.underlying310
  a218 := Tryz.isAgg310
  z218 := Tryz.sizeOf310
  v218 := Tryz.zeroValue310
  t222 := Tryz.underlying313
  a222 := Tryz.isAgg313
  z222 := Tryz.sizeOf313
  v222 := Tryz.zeroValue313
  t228 := Tryz.underlying323
  a228 := Tryz.isAgg323
  z228 := Tryz.sizeOf323
  v228 := Tryz.zeroValue323
  t229 := Tryz.underlying324
  a229 := Tryz.isAgg324
  z229 := Tryz.sizeOf324
  v229 := Tryz.zeroValue324 }
def Tryz.laysNm220_ren : Go.Shelf.Ren := ⟨fun | 20 => 155 | n => n, fun | 22 => 27 | 3 => 3 | 4 => 4 | 0 => 0 | n => n, fun | n => n⟩
theorem Tryz.laysNm220 : Go.Proofs.Lays2.n20 Tryz.prog Tryz.laysNm220_ren := {
  mixed := by kernel_rfl
  f20 := Tryz.func155.trans (congrArg some (by kernel_rfl))
  t0 := Tryz.underlying0
  a0 := Tryz.isAgg0
  z0 := Tryz.sizeOf0
  v0 := Tryz.zeroValue0
  t3 := Tryz.underlying3
  a3 := Tryz.isAgg3
  z3 := Tryz.sizeOf3
  v3 := Tryz.zeroValue3
  t4 := Tryz.underlying4
  a4 := Tryz.isAgg4
  z4 := Tryz.sizeOf4
  v4 := Tryz.zeroValue4
  t22 := Tryz.underlying27
  a22 := Tryz.isAgg27
  z22 := Tryz.sizeOf27
  v22 := Tryz.zeroValue27
  i3 := by kernel_rfl }
def Tryz.laysNm225_ren : Go.Shelf.Ren := ⟨fun | 25 => 156 | 31 => 205 | 32 => 206 | 37 => 237 | n => n, fun | 22 => 27 | 3 => 3 | 4 => 4 | 40 => 118 | 0 => 0 | n => n, fun | n => n⟩
theorem Tryz.laysNm225 : Go.Proofs.Lays2.n25 Tryz.prog Tryz.laysNm225_ren := {
  mixed := by kernel_rfl
  f25 := Tryz.func156.trans (congrArg some (by kernel_rfl))
  f31 := Tryz.func205.trans (congrArg some (by kernel_rfl))
  f32 := Tryz.func206.trans (congrArg some (by kernel_rfl))
  f37 := Tryz.func237.trans (congrArg some (by kernel_rfl))
  t0 := Tryz.underlying0
  a0 := Tryz.isAgg0
  z0 := Tryz.sizeOf0
  v0 := Tryz.zeroValue0
  t3 := Tryz.underlying3
  a3 := Tryz.isAgg3
  z3 := Tryz.sizeOf3
  v3 := Tryz.zeroValue3
  t4 := Tryz.underlying4
  a4 := Tryz.isAgg4
  z4 := Tryz.sizeOf4
  v4 := Tryz.zeroValue4
  t22 := Tryz.underlying27
  a22 := Tryz.isAgg27
  z22 := Tryz.sizeOf27
  v22 := Tryz.zeroValue27
  t40 := Tryz.underlying118
  a40 := Tryz.isAgg118
  z40 := Tryz.sizeOf118
  v40 := Tryz.zeroValue118 }
def Tryz.laysE_ren : Go.Shelf.Ren := ⟨fun | 6 => 221 | 15 => 204 | 14 => 247 | 28 => 235 | 29 => 236 | 20 => 255 | 21 => 256 | 22 => 257 | 23 => 258 | 24 => 259 | 25 => 260 | 26 => 261 | 27 => 262 | 46 => 264 | 47 => 249 | 48 => 250 | 49 => 265 | 50 => 266 | 57 => 267 | n => n, fun | 22 => 26 | 24 => 43 | 25 => 291 | 3 => 3 | 39 => 118 | 0 => 0 | 53 => 23 | 55 => 84 | 4 => 4 | 46 => 295 | 45 => 294 | 50 => 235 | 5 => 5 | 9 => 9 | 66 => 310 | 70 => 313 | 76 => 323 | 77 => 324 | n => n, fun | n => n⟩
theorem Tryz.laysE : Go.Proofs.SlLaysF0.n6 Tryz.prog Tryz.laysE_ren := {
  mixed := by kernel_rfl
  f6 := ⟨Tryz.f221.name, by decide, Tryz.func221.trans (congrArg some (by kernel_rfl))⟩
  f14 := ⟨Tryz.f247.name, by decide, Tryz.func247.trans (congrArg some (by kernel_rfl))⟩
  f15 := Tryz.func204.trans (congrArg some (by kernel_rfl))
  f20 := ⟨Tryz.f255.name, by decide, Tryz.func255.trans (congrArg some (by kernel_rfl))⟩
  f21 := ⟨Tryz.f256.name, by decide, Tryz.func256.trans (congrArg some (by kernel_rfl))⟩
  f22 := ⟨Tryz.f257.name, by decide, Tryz.func257.trans (congrArg some (by kernel_rfl))⟩
  f23 := ⟨Tryz.f258.name, by decide, Tryz.func258.trans (congrArg some (by kernel_rfl))⟩
  f24 := ⟨Tryz.f259.name, by decide, Tryz.func259.trans (congrArg some (by kernel_rfl))⟩
  f25 := ⟨Tryz.f260.name, by decide, Tryz.func260.trans (congrArg some (by kernel_rfl))⟩
  f26 := ⟨Tryz.f261.name, by decide, Tryz.func261.trans (congrArg some (by kernel_rfl))⟩
  f27 := ⟨Tryz.f262.name, by decide, Tryz.func262.trans (congrArg some (by kernel_rfl))⟩
  f28 := Tryz.func235.trans (congrArg some (by kernel_rfl))
  f29 := Tryz.func236.trans (congrArg some (by kernel_rfl))
  f46 := ⟨Tryz.f264.name, by decide, Tryz.func264.trans (congrArg some (by kernel_rfl))⟩
  f47 := Tryz.func249.trans (congrArg some (by kernel_rfl))
  f48 := Tryz.func250.trans (congrArg some (by kernel_rfl))
  f49 := ⟨Tryz.f265.name, by decide, Tryz.func265.trans (congrArg some (by kernel_rfl))⟩
  f50 := ⟨Tryz.f266.name, by decide, Tryz.func266.trans (congrArg some (by kernel_rfl))⟩
  f57 := ⟨Tryz.f267.name, by decide, Tryz.func267.trans (congrArg some (by kernel_rfl))⟩
  t0 := Tryz.underlying0
  a0 := Tryz.isAgg0
  z0 := Tryz.sizeOf0
  v0 := Tryz.zeroValue0
  t3 := Tryz.underlying3
  a3 := Tryz.isAgg3
  z3 := Tryz.sizeOf3
  v3 := Tryz.zeroValue3
  t4 := Tryz.underlying4
  a4 := Tryz.isAgg4
  z4 := Tryz.sizeOf4
  v4 := Tryz.zeroValue4
  t5 := Tryz.underlying5
  a5 := Tryz.isAgg5
  z5 := Tryz.sizeOf5
  v5 := Tryz.zeroValue5
  t9 := Tryz.underlying9
  a9 := Tryz.isAgg9
  z9 := Tryz.sizeOf9
  v9 := Tryz.zeroValue9
  t22 := Tryz.underlying26
  a22 := Tryz.isAgg26
  z22 := Tryz.sizeOf26
  v22 := Tryz.zeroValue26
  t25 := Tryz.underlying291
  a25 := Tryz.isAgg291
  z25 := Tryz.sizeOf291
  v25 := Tryz.zeroValue291
  t39 := Tryz.underlying118
  a39 := Tryz.isAgg118
  z39 := Tryz.sizeOf118
  v39 := Tryz.zeroValue118
  t45 := Tryz.underlying294
  a45 := Tryz.isAgg294
  z45 := Tryz.sizeOf294
  v45 := Tryz.zeroValue294
  t46 := Tryz.underlying295
  a46 := Tryz.isAgg295
  z46 := Tryz.sizeOf295
  v46 := Tryz.zeroValue295
  t50 := Tryz.underlying235
  a50 := Tryz.isAgg235
  z50 := Tryz.sizeOf235
  v50 := Tryz.zeroValue235
  t53 := Tryz.underlying23
  a53 := Tryz.isAgg23
  z53 := Tryz.sizeOf23
  v53 := Tryz.zeroValue23
  t55 := Tryz.underlying84
  a55 := Tryz.isAgg84
  z55 := Tryz.sizeOf84
  v55 := Tryz.zeroValue84
  t66 := Tryz.underlying310
  a66 := Tryz.isAgg310
  z66 := Tryz.sizeOf310
  v66 := Tryz.zeroValue310
  t70 := Tryz.underlying313
  a70 := Tryz.isAgg313
  z70 := Tryz.sizeOf313
  v70 := Tryz.zeroValue313
  t76 := Tryz.underlying323
  a76 := Tryz.isAgg323
  z76 := Tryz.sizeOf323
  v76 := Tryz.zeroValue323
  t77 := Tryz.underlying324
  a77 := Tryz.isAgg324
  z77 := Tryz.sizeOf324
  v77 := Tryz.zeroValue324 }
end Go.Proofs
namespace Go.Proofs.YtniicgbkeifnjaaGreatDoor
open Go.ChangeShapes Go.WideShapes Go.ChangeAt Go.RowKit Go.Sort
set_option linter.unusedVariables false
set_option maxRecDepth 100000
namespace Plan
def sorted (l : List Int) : List Int := l.mergeSort fun x y => decide (x ≤ y)
theorem sorted_len (l : List Int) : (sorted l).length = l.length := List.length_mergeSort l
theorem sorted_mem (l : List Int) (x : Int) : x ∈ sorted l ↔ x ∈ l := List.mem_mergeSort
theorem sorted_up (l : List Int) : (sorted l).Pairwise (· ≤ ·) := by
  have h := List.pairwise_mergeSort (le := fun x y : Int => decide (x ≤ y)) (fun a b c h1 h2 => by simp only [decide_eq_true_eq] at h1 h2 ⊢; omega) (fun a b => by simp only [Bool.or_eq_true, decide_eq_true_eq]; omega) l
  exact h.imp (fun h => of_decide_eq_true h)
theorem up_at {l : List Int} (h : l.Pairwise (· ≤ ·)) {i j : Nat} (hij : i ≤ j) (hj : j < l.length) : l.toArray[i]! ≤ l.toArray[j]! := by
  rw [getElem!_pos l.toArray i (by simp; omega), getElem!_pos l.toArray j (by simp; omega)]
  simp only [List.getElem_toArray]
  by_cases e : i = j
  · subst e; omega
  · exact List.pairwise_iff_getElem.1 h i j (by omega) hj (by omega)
theorem compact_is {l : List Int} (h : l.Pairwise (· ≤ ·)) : ∀ m, m ≤ l.length → Asc (Lib.compactUpTo l.toArray m) ∧ (∀ x, x ∈ Lib.compactUpTo l.toArray m ↔ ∃ j, j < m ∧ x = l.toArray[j]!)
  | 0, _ => by
    constructor
    · simp [Lib.compactUpTo, Asc]
    · intro x
      simp [Lib.compactUpTo]
  | m + 1, hm => by
    obtain ⟨h1, h2⟩ := compact_is h m (by omega)
    rw [Lib.compactUpTo_succ]
    by_cases hk : Lib.keeps l.toArray m = true
    · rw [if_pos hk]
      constructor
      · unfold Asc
        rw [List.pairwise_append]
        refine ⟨h1, List.pairwise_singleton _ _, fun a ha b hb => ?_⟩
        rw [List.mem_singleton] at hb
        subst hb
        obtain ⟨j, hj, rfl⟩ := (h2 a).1 ha
        have h3 := up_at h (show j ≤ m - 1 by omega) (by omega)
        have h4 := up_at h (show m - 1 ≤ m by omega) (by omega)
        have h5 : l.toArray[m]! ≠ l.toArray[m - 1]! := by
          unfold Lib.keeps at hk
          rcases of_decide_eq_true hk with e | e
          · omega
          · exact e
        omega
      · intro x
        rw [List.mem_append, h2, List.mem_singleton]
        constructor
        · rintro (⟨j, hj, e⟩ | e)
          · exact ⟨j, by omega, e⟩
          · exact ⟨m, by omega, e⟩
        · rintro ⟨j, hj, e⟩
          by_cases e2 : j = m
          · subst e2; exact .inr e
          · exact .inl ⟨j, by omega, e⟩
    · rw [if_neg hk, List.append_nil]
      refine ⟨h1, fun x => ?_⟩
      rw [h2]
      have h5 : 0 < m ∧ l.toArray[m]! = l.toArray[m - 1]! := by
        unfold Lib.keeps at hk
        have hk := of_decide_eq_false (Bool.not_eq_true _ ▸ hk)
        constructor
        · rcases Nat.eq_zero_or_pos m with e | e
          · exact absurd (.inl e) hk
          · exact e
        · by_cases e : l.toArray[m]! = l.toArray[m - 1]!
          · exact e
          · exact absurd (.inr e) hk
      constructor
      · rintro ⟨j, hj, e⟩
        exact ⟨j, by omega, e⟩
      · rintro ⟨j, hj, e⟩
        by_cases e2 : j = m
        · subst e2; exact ⟨j - 1, by omega, by rw [e, h5.2]⟩
        · exact ⟨j, by omega, e⟩
theorem bes_sorted (es : List (Int × Int)) (v : Int) (l : List Int) (hl : ∀ x, x ∈ l ↔ x ∈ raw es v) : Lib.compact (sorted l) = bes es v := by
  obtain ⟨h1, h2⟩ := compact_is (sorted_up l) (sorted l).length (Nat.le_refl _)
  refine asc_ext _ _ h1 (bes_asc es v) (fun x => ?_)
  show x ∈ Lib.compactUpTo (sorted l).toArray (sorted l).length ↔ _
  rw [h2, mem_bes, ← mem_raw, ← hl, ← sorted_mem]
  constructor
  · rintro ⟨j, hj, rfl⟩
    rw [getElem!_pos (sorted l).toArray j (by simpa using hj)]
    simp
  · intro hx
    obtain ⟨j, hj, rfl⟩ := List.getElem_of_mem hx
    exact ⟨j, hj, by rw [getElem!_pos (sorted l).toArray j (by simpa using hj)]; simp⟩
end Plan
theorem sort_own {w : World} {base : Nat} {v : Value} {l : List Int} (h : w.ownsRow base 3 1 v l.length (zcells l)) (hl : l.length ≤ 17592186044416) :
    Calls Tryz.prog 154 #[v] w fun e w' => e = .returned (.tuple #[]) ∧ w'.ownsRow base 3 1 v (Plan.sorted l).length (zcells (Plan.sorted l)) ∧ Below base w w' := by
  rcases h.2 with ⟨hv, h0⟩ | ⟨g, cap, cur, hv, hb, hg, hnc, hcm, hcs, htake⟩
  · subst hv
    have : l = [] := List.length_eq_zero_iff.1 h0
    subst this
    refine (Any.slices_Sort_int_none Tryz.lays189 none 0 w).mono ?_
    rintro e w' ⟨rfl, rfl⟩
    have e0 : Plan.sorted [] = [] := by simp [Plan.sorted]
    rw [e0]
    exact ⟨rfl, h, Below.refl _ _⟩
  · subst hv
    have hlt : g < w.heap.size := by
      rcases Nat.lt_or_ge g w.heap.size with h' | h'
      · exact h'
      · simp [Array.getElem?_eq_none h'] at hg
    have hH := holds_of_blockI (ss := l) hg (by rw [Nat.mul_one] at htake; exact htake)
    refine (Any.slices_Sort_int Tryz.lays189 g 0 cap l w hH hlt (by omega)).mono ?_
    rintro e w' ⟨rfl, n, os, rfl⟩
    refine ⟨rfl, ?_, ?_⟩
    · rw [Plan.sorted_len]
      exact ownsRow_sortedI (Plan.sorted_len l) hb hg hnc hcm hcs
    · exact (Below.refl base w).grown (grownBy_sortedI _) (by omega) (fun k hk => by cases hk; exact hb)
theorem compact_own {w : World} {base : Nat} {v : Value} {l : List Int} (h : w.ownsRow base 3 1 v l.length (zcells l)) (hl : l.length ≤ 17592186044416) :
    Calls Tryz.prog 155 #[v] w fun e w' => ∃ v', e = .returned v' ∧ w'.ownsRow base 3 1 v' (Lib.compact l).length (zcells (Lib.compact l)) ∧ Below base w w' := by
  rcases h.2 with ⟨hv, h0⟩ | ⟨g, cap, cur, hv, hb, hg, hnc, hcm, hcs, htake⟩
  · subst hv
    have : l = [] := List.length_eq_zero_iff.1 h0
    subst this
    refine (Any.slices_Compact_int_empty Tryz.laysNm220 none 0 w).mono ?_
    rintro e w' ⟨rfl, rfl⟩
    have e0 : Lib.compact ([] : List Int) = [] := by simp [Lib.compact, Lib.compactUpTo]
    rw [e0]
    exact ⟨_, rfl, h, Below.refl _ _⟩
  · subst hv
    have hH := holds_of_blockI (ss := l) hg (by rw [Nat.mul_one] at htake; exact htake)
    refine (Any.slices_Compact_int Tryz.laysNm220 g 0 cap l w hH (by omega) hnc).mono ?_
    rintro e w' ⟨rfl, q, rfl⟩
    have hle := Lib.compact_length_le l
    have hc := Lib.ownsRow_putRow (q := q) (k := (Lib.compact l).length) (ys := Lib.compact l ++ List.replicate (l.length - (Lib.compact l).length) 0) h (by simp; omega) (by omega)
    rw [List.take_left] at hc
    exact ⟨_, rfl, hc, Lib.below_putRow (Below.refl base w) hb⟩
end Go.Proofs.YtniicgbkeifnjaaGreatDoor
