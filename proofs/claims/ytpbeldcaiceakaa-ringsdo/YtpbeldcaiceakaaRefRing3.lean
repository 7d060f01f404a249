/-
  The document's own rings (package shunterref08): Head, All, Len, Same on the call's own. Conditions: none but that the rings are such.
-/
import Derived.Test.YtpbeldcaiceakaaRefRing2
namespace Go.Proofs.Ytpbeldcaiceakaa
open Go.ChangeShapes Go.WideShapes Go.ChangeAt Go.RowKit
set_option linter.unusedVariables false

section
variable {w : World} {F : Nat → Prop} {r P L n : Nat} {ls : List Ent}
set_option maxHeartbeats 2000000 in
set_option maxRecDepth 100000 in
theorem refHead_any (h : RefAt w F r P L n ls) (i o l : Int) (x : Pk) (b : Bool) (hx : hd (qof ls (i, o, l)) = x) (hb : (!(qof ls (i, o, l)).isEmpty) = b) :
    Calls Try.prog 27 #[.pointer (some ⟨r, 0, none⟩), .int .i64 i, .int .i64 o, .int .i64 l] w fun e w' => e = .returned (.tuple #[.agg #[.int .i64 x.s, .int .i64 x.d, .int .i64 x.l, .int .u32 x.b], .bool b]) ∧ Below w.heap.size w w' := by
  obtain ⟨a, cap, h⟩ := h
  have HR : Hid (RefIn w F r P L n ls a cap) := h
  cases hf : fidx ls (i, o, l) with
  | none =>
    have hq := fidx_none hf
    rw [hq] at hx hb
    subst hx hb
    have HF : Hid (fz ls (i, o, l) = -1) := fz_none hf
    clear h hf hq
    go_enter Try.func27, Try.ntmps27
    go_wp2_with fail
    refine (refFirst_any ⟨a, cap, HR.out.below (fresh _ _)⟩ i o l (-1) HF.out).mono ?_
    rintro e u ⟨rfl, rfl⟩
    go_wp2_with fail
    exact bodyPost_ret (v := .tuple #[.agg #[.int .i64 0, .int .i64 0, .int .i64 0, .int .u32 0], .bool false]) (by simp [results, Try.results27, go_sem]) rfl ⟨rfl, fresh _ _⟩
  | some j =>
    obtain ⟨y, hj, hq, _⟩ := fidx_some hf
    rw [hq] at hx hb
    subst hx hb
    have HF : Hid (fz ls (i, o, l) = j) := fz_some hf
    obtain ⟨g, hag, hgl, hcap, hcm, _, _, _, q3, q4, q5, q6⟩ := h.at hj
    subst hag
    have hjl := fidx_lt hf
    have hc3 := h.c3
    obtain ⟨m, hm⟩ : ∃ m, ls.length = m := ⟨_, rfl⟩
    rw [hm] at hc3 hjl hcap
    have hm2 : m ≤ 200 := by have := h.len; have := h.n2; omega
    have hjl' : (j : Int) < m := by omega
    have hrl := h.foot r h.self
    have k3 : ∀ X, (w.alloc X).cell? ⟨r, 3, none⟩ = some (.slice (some ⟨g, 0, none⟩) m cap) := fun X => ((fresh w X).cell (p := ⟨r, 3, none⟩) hrl).trans hc3
    have p0 : ∀ X, (w.alloc X).cell? ⟨g, j * 7 + 3, none⟩ = some (.int .i64 y.s) := fun X => ((fresh w X).cell (p := ⟨g, j * 7 + 3, none⟩) hgl).trans q3
    have p1 : ∀ X, (w.alloc X).cell? ⟨g, j * 7 + 3 + 1, none⟩ = some (.int .i64 y.d) := fun X => ((fresh w X).cell (p := ⟨g, j * 7 + 3 + 1, none⟩) hgl).trans q4
    have p2 : ∀ X, (w.alloc X).cell? ⟨g, j * 7 + 3 + 2, none⟩ = some (.int .i64 y.l) := fun X => ((fresh w X).cell (p := ⟨g, j * 7 + 3 + 2, none⟩) hgl).trans q5
    have p3 : ∀ X, (w.alloc X).cell? ⟨g, j * 7 + 3 + 3, none⟩ = some (.int .u32 y.b) := fun X => ((fresh w X).cell (p := ⟨g, j * 7 + 3 + 3, none⟩) hgl).trans q6
    clear h hf hj hq q3 q4 q5 q6 hc3 hm hcap hcm
    simp only [hd, List.headD_cons]
    go_enter Try.func27, Try.ntmps27
    go_wp2_with fail
    refine (refFirst_any ⟨_, cap, HR.out.below (fresh _ _)⟩ i o l j HF.out).mono ?_
    rintro e u ⟨rfl, rfl⟩
    go_wp2_with fail
    exact bodyPost_ret (v := .tuple #[.agg #[.int .i64 y.s, .int .i64 y.d, .int .i64 y.l, .int .u32 y.b], .bool true]) (by simp [results, Try.results27, go_sem]) rfl ⟨rfl, fresh _ _⟩
set_option maxHeartbeats 2000000 in
set_option maxRecDepth 100000 in
theorem refAll_any (h : RefAt w F r P L n ls) (i o l : Int) (xs : List Pk) (hxs : qof ls (i, o, l) = xs) :
    Calls Try.prog 20 #[.pointer (some ⟨r, 0, none⟩), .int .i64 i, .int .i64 o, .int .i64 l] w fun e w' => ∃ v, e = .returned v ∧ PRow w' w.heap.size v xs ∧ Below w.heap.size w w' := by
  obtain ⟨a, cap, h⟩ := h
  subst hxs
  have HR : Hid (RefIn w F r P L n ls a cap) := h
  obtain ⟨m, hm⟩ : ∃ m, ls.length = m := ⟨_, rfl⟩
  have HN : Hid (ls.length = m) := hm
  have hm2 : m ≤ 200 := by have := h.len; have := h.n2; omega
  have hc3 := h.c3
  rw [hm] at hc3
  obtain ⟨i0, hi0, hz0, hz1, hz2⟩ := info_parts infoPk
  clear h hm
  go_enter Try.func20, Try.ntmps20
  go_wp2_with fail
  go_loopw [9, 10] (fun al x wr => ∃ k : Nat, k ≤ m ∧ x = .int .i64 k ∧ PRow wr w.heap.size al (qof (ls.take k) (i, o, l)) ∧ Below w.heap.size w wr) (fun _ x _ => m - (intOf x).toNat)
  case atStart => exact ⟨0, Nat.zero_le _, rfl, World.ownsRow_nil _ _ _ _, Below.refl _ _⟩
  case round =>
    obtain ⟨k, hk, rfl, hrow, hbel⟩ := hrel
    have HB : Hid (PRow wr w.heap.size u9 (qof (ls.take k) (i, o, l)) ∧ Below w.heap.size w wr) := ⟨hrow, hbel⟩
    have k3 : wr.cell? ⟨r, 3, none⟩ = some (.slice a m cap) := (hbel.cell (p := ⟨r, 3, none⟩) (HR.out.foot r HR.out.self)).trans hc3
    clear hrow hbel
    by_cases hkm : k < m
    · have hkm' : (k : Int) < m := by omega
      obtain ⟨e, he⟩ : ∃ e, ls[k]? = some e := ⟨_, List.getElem?_eq_getElem (by have := HN.out; omega)⟩
      obtain ⟨g, hag, hgl, hcap, hcm, q0, q1, q2, q3, q4, q5, q6⟩ := (HR.out.below HB.out.2).at he
      subst hag
      have HT : Hid (ls.take (k + 1) = ls.take k ++ [e]) := take_ent he
      obtain ⟨⟨ei, eo, el⟩, ex⟩ := e
      simp only at q0 q1 q2 q3 q4 q5 q6
      clear he hcap hcm hc3
      have HS : Hid ((¬ ((ei, eo, el) : Pl) = (i, o, l)) → PRow wr w.heap.size u9 (qof (ls.take (k + 1)) (i, o, l))) := fun hne => by
        rw [HT.out, qof_snoc_not _ _ hne]
        exact HB.out.1
      by_cases h1 : ei = i
      · by_cases h2 : eo = o
        · by_cases h3 : el = l
          · subst h1 h2 h3
            obtain ⟨c, hc⟩ : ∃ c, (qof (ls.take k) (ei, eo, el)).length = c := ⟨_, rfl⟩
            have hck : Hid ((qof (ls.take k) (ei, eo, el)).length = c) := hc
            have hc2 : c ≤ 200 := by
              rw [← hc]
              unfold qof
              rw [List.length_map]
              refine Nat.le_trans (List.length_filter_le _ _) ?_
              rw [List.length_take]
              omega
            have HO : Hid (wr.ownsRow w.heap.size 27 4 u9 c (pcells (qof (ls.take k) (ei, eo, el)))) := by
              have := HB.out.1
              unfold PRow at this
              rw [hc] at this
              exact this
            have hsz : w.heap.size ≤ wr.heap.size := HB.out.2.size
            clear hc HS
            go_wp2_with (at_builtin; refine wpList_append_own _ rfl _ _ 42 rfl w.heap.size 27 i0 _ 4 32 Try.underlying42 hi0 hz0 hz1 hz2 rfl (by decide) u9 c (pcells (qof (ls.take k) (ei, eo, el))) rfl (HO.out.alloc _) ⟨wr.heap.size, 0, none⟩ 1 1 [.int .i64 ex.s, .int .i64 ex.d, .int .i64 ex.l, .int .u32 ex.b] rfl rfl (four_cell wr ex.s ex.d ex.l ex.b) (four_one _ _ _ _) (by unfold maxLen; omega) (by omega) (by simp; omega) ?_; intro v' u2 hown hg hnil)
            go_roundw
            case rel =>
              have R1 : PRow u2 w.heap.size v' (qof (ls.take (k + 1)) (ei, eo, el)) := by
                unfold PRow
                rw [HT.out, qof_snoc_at, pcells_snoc, List.length_append, hck.out]
                exact hown
              have R2 : Below w.heap.size w u2 := (later HB.out.2 (fresh _ _)).grown hg (by simp; omega) (fun j e => (HO.out.lt j e).1)
              first | exact ⟨k + 1, by omega, by go_num, R1, R2⟩ | ((repeat apply Exists.intro); exact ⟨⟨k + 1, by omega, by go_num, R1, R2⟩, rfl⟩)
            case measure => simp [intOf]; omega
          · have h3' : (el == l) = false := by simpa using h3
            subst h1 h2
            go_wp2_with fail
            go_roundw
            case rel => exact ⟨k + 1, by omega, by go_num, HS.out (fun e => h3 (by simp only [Prod.mk.injEq] at e; exact e.2.2)), HB.out.2⟩
            case measure => simp [intOf]; omega
        · have h2' : (eo == o) = false := by simpa using h2
          subst h1
          go_wp2_with fail
          go_roundw
          case rel => exact ⟨k + 1, by omega, by go_num, HS.out (fun e => h2 (by simp only [Prod.mk.injEq] at e; exact e.2.1)), HB.out.2⟩
          case measure => simp [intOf]; omega
      · have h1' : (ei == i) = false := by simpa using h1
        go_wp2_with fail
        go_roundw
        case rel => exact ⟨k + 1, by omega, by go_num, HS.out (fun e => h1 (by simp only [Prod.mk.injEq] at e; exact e.1)), HB.out.2⟩
        case measure => simp [intOf]; omega
    · obtain rfl : k = m := by omega
      go_wp2_with fail
      go_ret
      have ht : ls.take k = ls := List.take_of_length_le (by have := HN.out; omega)
      refine ⟨u9, rfl, ?_, HB.out.2⟩
      have := HB.out.1
      rw [ht] at this
      exact this
set_option maxHeartbeats 1000000 in
theorem refLen_any (h : RefAt w F r P L n ls) (i o l : Int) (j : Nat) (hj : (qof ls (i, o, l)).length = j) :
    Calls Try.prog 17 #[.pointer (some ⟨r, 0, none⟩), .int .i64 i, .int .i64 o, .int .i64 l] w fun e w' => e = .returned (.int .i64 j) ∧ Below w.heap.size w w' := by
  have HR : Hid (RefAt w F r P L n ls) := h
  have HJ : Hid ((qof ls (i, o, l)).length = j) := hj
  clear h hj
  go_enter Try.func17, Try.ntmps17
  go_wp2_with fail
  refine (refAll_any HR.out i o l _ rfl).mono ?_
  rintro e u ⟨v, rfl, hr, hb⟩
  obtain ⟨a, cap, rfl⟩ := hr.shape
  rw [HJ.out]
  clear hr
  go_wp2_with fail
  go_ret
  exact ⟨rfl, hb⟩
end
theorem pcells_at : ∀ {xs : List Pk} {j : Nat} {x : Pk} (h : xs[j]? = some x) (i : Nat), i < 4 → (pcells xs)[j * 4 + i]? = [Value.int .i64 x.s, .int .i64 x.d, .int .i64 x.l, .int .u32 x.b][i]?
  | [], j, e, h, i, hi => by simp at h
  | f :: ls, 0, e, h, i, hi => by
    simp at h
    subst h
    have : pcells (f :: ls) = [.int .i64 f.s, .int .i64 f.d, .int .i64 f.l, .int .u32 f.b] ++ pcells ls := by simp [pcells]
    rw [this, List.getElem?_append_left (by simp; omega), Nat.zero_mul, Nat.zero_add]
  | f :: ls, j + 1, e, h, i, hi => by
    have : pcells (f :: ls) = [.int .i64 f.s, .int .i64 f.d, .int .i64 f.l, .int .u32 f.b] ++ pcells ls := by simp [pcells]
    rw [this, List.getElem?_append_right (by simp; omega)]
    have := pcells_at (xs := ls) (j := j) (x := e) (by simpa using h) i hi
    simp only [List.length_cons, List.length_nil]
    rw [show (j + 1) * 4 + i - (0 + 1 + 1 + 1 + 1) = j * 4 + i by omega]
    exact this
theorem PRow.at {w : World} {base len cap : Nat} {a : Option Addr} {xs : List Pk} (h : PRow w base (.slice a len cap) xs) {j : Nat} {x : Pk} (hj : xs[j]? = some x) : ∃ g, a = some ⟨g, 0, none⟩ ∧ g < w.heap.size ∧ PkAt w g (j * 4) x := by
  have hlt : j < xs.length := (List.getElem?_eq_some_iff.1 hj).1
  unfold PRow at h
  rcases h.2 with ⟨e1, h0⟩ | ⟨g, cp, cur, e1, _, hg, hn, hm, _, _⟩
  · omega
  · simp only [Value.slice.injEq] at e1
    obtain ⟨rfl, rfl, rfl⟩ := e1
    have hc : ∀ i, i < 4 → w.cell? ⟨g, j * 4 + i, none⟩ = [Value.int .i64 x.s, .int .i64 x.d, .int .i64 x.l, .int .u32 x.b][i]? := fun i hi => by
      rw [h.cellAt (j * 4 + i) (by omega)]
      exact pcells_at hj i hi
    exact ⟨g, rfl, (h.lt g rfl).2, hc 0 (by omega), hc 1 (by omega), hc 2 (by omega), hc 3 (by omega)⟩
set_option maxHeartbeats 2000000 in
set_option maxRecDepth 100000 in
theorem same_any (w : World) (b1 b2 : Nat) (v1 v2 : Value) (xs : List Pk) (h1 : PRow w b1 v1 xs) (h2 : PRow w b2 v2 xs) (hl : xs.length ≤ 1000) :
    Calls Try.prog 18 #[v1, v2] w fun e w' => e = .returned (.bool true) ∧ Below w.heap.size w w' := by
  obtain ⟨a1, c1, rfl⟩ := h1.shape
  obtain ⟨a2, c2, rfl⟩ := h2.shape
  obtain ⟨m, hm⟩ : ∃ m, xs.length = m := ⟨_, rfl⟩
  rw [hm] at h1 h2 hl ⊢
  have H1 : Hid (PRow w b1 (.slice a1 m c1) xs) := h1
  have H2 : Hid (PRow w b2 (.slice a2 m c2) xs) := h2
  have HN : Hid (xs.length = m) := hm
  clear h1 h2 hm
  go_enter Try.func18, Try.ntmps18
  go_wp2_with fail
  go_loopw [5] (fun x wr => ∃ k : Nat, k ≤ m ∧ x = .int .i64 k ∧ Below w.heap.size w wr) (fun x _ => m - (intOf x).toNat)
  case atStart => exact ⟨0, Nat.zero_le _, rfl, Below.refl _ _⟩
  case round =>
    obtain ⟨k, hk, rfl, hbel⟩ := hrel
    have HB : Hid (Below w.heap.size w wr) := hbel
    clear hbel
    by_cases hkm : k < m
    · have hkm' : (k : Int) < m := by omega
      obtain ⟨x, hx⟩ : ∃ x, xs[k]? = some x := ⟨_, List.getElem?_eq_getElem (by have := HN.out; omega)⟩
      obtain ⟨g1, e1, hg1, hp1⟩ := H1.out.at hx
      obtain ⟨g2, e2, hg2, hp2⟩ := H2.out.at hx
      subst e1 e2
      obtain ⟨p0, p1, p2, p3⟩ := hp1.sans (F := fun j => ¬ j < w.heap.size) (w' := wr) ⟨HB.out.os, HB.out.tape, HB.out.output, HB.out.size, fun j hj _ => HB.out.block j hj⟩ (fun e => e hg1)
      obtain ⟨q0, q1, q2, q3⟩ := hp2.sans (F := fun j => ¬ j < w.heap.size) (w' := wr) ⟨HB.out.os, HB.out.tape, HB.out.output, HB.out.size, fun j hj _ => HB.out.block j hj⟩ (fun e => e hg2)
      clear hp1 hp2 hx
      go_wp2_with fail
      go_region_held3 (fun w' => w'.cell? ⟨g1, k * 4, none⟩ = some (.int .i64 x.s) ∧ w'.cell? ⟨g1, k * 4 + 1, none⟩ = some (.int .i64 x.d) ∧ w'.cell? ⟨g1, k * 4 + 2, none⟩ = some (.int .i64 x.l) ∧ w'.cell? ⟨g1, k * 4 + 3, none⟩ = some (.int .u32 x.b) ∧ w'.cell? ⟨g2, k * 4, none⟩ = some (.int .i64 x.s) ∧ w'.cell? ⟨g2, k * 4 + 1, none⟩ = some (.int .i64 x.d) ∧ w'.cell? ⟨g2, k * 4 + 2, none⟩ = some (.int .i64 x.l) ∧ w'.cell? ⟨g2, k * 4 + 3, none⟩ = some (.int .u32 x.b)) (go_keep) (fail)
      go_wp2_with fail
      go_roundw
      case rel => exact ⟨k + 1, by omega, by go_num, later HB.out (drewN_below _ 1)⟩
      case measure => simp [intOf]; omega
    · obtain rfl : k = m := by omega
      go_wp2_with fail
      go_ret
      exact ⟨rfl, HB.out⟩
end Go.Proofs.Ytpbeldcaiceakaa
