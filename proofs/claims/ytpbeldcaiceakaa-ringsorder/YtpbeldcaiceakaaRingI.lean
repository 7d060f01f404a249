/-
  Package rings, as it landed: Pop, over rings whose memory is their own. Conditions: none but that the rings are such.
-/
import Derived.Test.YtpbeldcaiceakaaRingH
namespace Go.Proofs.Ytpbeldcaiceakaa
open Go.ChangeShapes Go.WideShapes Go.ChangeAt Go.RowKit
set_option linter.unusedVariables false

def Place3 (w : World) (b : Nat) (i o l : Int) : Prop := w.cell? ⟨b, 0, none⟩ = some (.int .i64 i) ∧ w.cell? ⟨b, 1, none⟩ = some (.int .i64 o) ∧ w.cell? ⟨b, 2, none⟩ = some (.int .i64 l)
theorem Place3.sans {H : Nat → Prop} {w w' : World} {b : Nat} {i o l : Int} (h : Place3 w b i o l) (k : Sans H w w') (hb : ¬ H b) : Place3 w' b i o l :=
  ⟨(k.cell (p := ⟨b, 0, none⟩) (cell_lt h.1) hb).trans h.1, (k.cell (p := ⟨b, 1, none⟩) (cell_lt h.2.1) hb).trans h.2.1, (k.cell (p := ⟨b, 2, none⟩) (cell_lt h.2.2) hb).trans h.2.2⟩
theorem Place3.below {w w' : World} {b : Nat} {i o l : Int} (h : Place3 w b i o l) (k : Below w.heap.size w w') : Place3 w' b i o l := h.sans (H := fun _ => False) (Sans.of_below k) (fun e => e)
section
variable {w : World} {F : Nat → Prop} {p P L n t c : Nat} {Qs : Pl → List Pk}
set_option maxHeartbeats 2000000 in
set_option maxRecDepth 100000 in
theorem rpop_none (h : RAt w F p P L n t c Qs) (i o l : Int) (hq : Wf (i, o, l)) (hx : Qs (i, o, l) = []) :
    Calls Try.prog 14 #[.pointer (some ⟨p, 0, none⟩), .int .i64 i, .int .i64 o, .int .i64 l] w fun e w' => e = .returned (.tuple #[.agg #[.int .i64 0, .int .i64 0, .int .i64 0, .int .u32 0], .bool false]) ∧ Below w.heap.size w w' := by
  obtain ⟨G, pp, mb, S, E, V, sl, h, hE⟩ := h
  obtain ⟨W, hW⟩ : ∃ W, W = (w.alloc (.cells #[.int .i64 0, .int .i64 0, .int .i64 0, .int .u32 0] 27)).alloc (.cells #[.int .i64 i, .int .i64 o, .int .i64 l] 51) := ⟨_, rfl⟩
  have bel : Below w.heap.size w W := by rw [hW]; exact later (fresh _ _) (fresh _ _)
  have hb0 : W.cell? ⟨w.heap.size + 1, 0, none⟩ = some (.int .i64 i) := by rw [hW]; simp
  have hb1 : W.cell? ⟨w.heap.size + 1, 1, none⟩ = some (.int .i64 o) := by rw [hW]; simp
  have hb2 : W.cell? ⟨w.heap.size + 1, 2, none⟩ = some (.int .i64 l) := by rw [hW]; simp
  have HB : Hid (Below w.heap.size w W) := bel
  have HE : Hid (E.length + t = n ∧ 1 ≤ P ∧ P ≤ 16 ∧ 1 ≤ L ∧ L ≤ 3) := hE
  have HR : Hid (RIn W F G p pp mb P L n S E c V sl Qs ∧ Qs (i, o, l) = []) := ⟨h.below bel, hx⟩
  have H4 : Hid (Four W w.heap.size) := by
    have := (Four.new w (.int .i64 0) (.int .i64 0) (.int .i64 0) (.int .u32 0) 27).below (fresh _ (.cells #[.int .i64 i, .int .i64 o, .int .i64 l] 51))
    rw [← hW] at this
    exact this
  have HK : Hid (Place3 W (w.heap.size + 1) i o l) := ⟨hb0, hb1, hb2⟩
  have bZ : Hid (Below W.heap.size W (W.alloc (.cells #[.int .i64 0, .int .i64 0, .int .i64 0, .int .u32 0] 27)).drew) := later (fresh _ _) (drewN_below _ 1)
  have H5 : Hid (Four (W.alloc (.cells #[.int .i64 0, .int .i64 0, .int .i64 0, .int .u32 0] 27)).drew W.heap.size) := (Four.new W (.int .i64 0) (.int .i64 0) (.int .i64 0) (.int .u32 0) 27).below (drewN_below _ 1)
  have hws : ¬ w.heap.size + 1 = W.heap.size := by rw [hW]; simp
  have hws0 : ¬ w.heap.size = W.heap.size := by rw [hW]; simp; omega
  have nF : ∀ j, w.heap.size ≤ j → ¬ F j := fun j hj e => by have := h.foot j e; omega
  clear h hx bel hE
  go_enter Try.func14, Try.ntmps14
  go_wp2_with fail
  rw [← hW]
  clear hW
  go_region_held3 (fun w' => w'.cell? ⟨w.heap.size + 1, 0, none⟩ = some (.int .i64 i) ∧ w'.cell? ⟨w.heap.size + 1, 1, none⟩ = some (.int .i64 o) ∧ w'.cell? ⟨w.heap.size + 1, 2, none⟩ = some (.int .i64 l)) (first | exact CK2.out _ _ _ _ | exact CK2.out | exact CK.out | exact HK.out.below bZ.out | exact HK.out.below (drewN_below W 1) | go_keep)
    (first | (go_at_call 22; refine (shead_no (HR.out.1.below (drewN_below W 1)) i o l hq HR.out.2).mono ?_; rintro e u ⟨rfl, hb⟩; have CK : Hid (Place3 u (w.heap.size + 1) i o l) := (HK.out.below (drewN_below W 1)).below hb; have HU : Hid (Below W.heap.size W u ∧ Four u w.heap.size) := ⟨later (drewN_below W 1) hb, (H4.out.below (drewN_below W 1)).below hb⟩; have CK2 : Hid (∀ a b c d : Value, Place3 (u.alloc (.cells #[a, b, c, d] 27)) (w.heap.size + 1) i o l) := fun _ _ _ _ => CK.out.below (fresh _ _); clear hb) | (go_at_call 22; refine (shead_no (HR.out.1.below bZ.out) i o l hq HR.out.2).mono ?_; rintro e u ⟨rfl, hb⟩; have CK : Hid (Place3 u (w.heap.size + 1) i o l) := (HK.out.below bZ.out).below hb; have HU : Hid (Below W.heap.size W u ∧ Four u w.heap.size) := ⟨later bZ.out hb, (H4.out.below bZ.out).below hb⟩; have F4 := H5.out.below hb; have HF4 : Hid (Four u W.heap.size) := F4; obtain ⟨⟨v0, r0⟩, ⟨v1, r1⟩, ⟨v2, r2⟩, ⟨v3, r3⟩, f0, f1, f2, f3⟩ := F4; have CK2 : Hid (Place3 (lay4 u W.heap.size 0 ⟨0, 0, 0, 0⟩) (w.heap.size + 1) i o l) := CK.out.sans (lay4_sans u W.heap.size 0 ⟨0, 0, 0, 0⟩) hws; clear hb))
  · have HZ0 : Hid (Below W.heap.size W (u.alloc (.cells #[.int .i64 0, .int .i64 0, .int .i64 0, .int .u32 0] 27)) ∧ Four (u.alloc (.cells #[.int .i64 0, .int .i64 0, .int .i64 0, .int .u32 0] 27)) w.heap.size ∧ PkAt (u.alloc (.cells #[.int .i64 0, .int .i64 0, .int .i64 0, .int .u32 0] 27)) u.heap.size 0 ⟨0, 0, 0, 0⟩ ∧ Place3 (u.alloc (.cells #[.int .i64 0, .int .i64 0, .int .i64 0, .int .u32 0] 27)) (w.heap.size + 1) i o l) := ⟨later HU.out.1 (fresh _ _), HU.out.2.below (fresh _ _), ⟨by simp, by simp, by simp, by simp⟩, CK2.out _ _ _ _⟩
    generalize (u.alloc (.cells #[.int .i64 0, .int .i64 0, .int .i64 0, .int .u32 0] 27)) = Z at HZ0 ⊢
    generalize u.heap.size = xb at HZ0 ⊢
    clear HU CK CK2 hb0 hb1 hb2
    have HZ := HZ0
    obtain ⟨⟨v0, r0⟩, ⟨v1, r1⟩, ⟨v2, r2⟩, ⟨v3, r3⟩, f0, f1, f2, f3⟩ := HZ.out.2.1
    obtain ⟨x0, x1, x2, x3⟩ := HZ.out.2.2.1
    go_wp2_with fail
    exact bodyPost_ret (v := .tuple #[.agg #[.int .i64 0, .int .i64 0, .int .i64 0, .int .u32 0], .bool false]) (by simp [results, Try.results14, go_sem, r0, r1, r2, r3]) rfl ⟨rfl, lay4_below (x := ⟨0, 0, 0, 0⟩) (o := 0) (later HB.out HZ.out.1) (Nat.le_refl _)⟩
  · have HZ0 : Hid (Below W.heap.size W ((((u.setCell ⟨W.heap.size, 0, none⟩ (.int .i64 0)).setCell ⟨W.heap.size, 1, none⟩ (.int .i64 0)).setCell ⟨W.heap.size, 2, none⟩ (.int .i64 0)).setCell ⟨W.heap.size, 3, none⟩ (.int .u32 0)) ∧ Four ((((u.setCell ⟨W.heap.size, 0, none⟩ (.int .i64 0)).setCell ⟨W.heap.size, 1, none⟩ (.int .i64 0)).setCell ⟨W.heap.size, 2, none⟩ (.int .i64 0)).setCell ⟨W.heap.size, 3, none⟩ (.int .u32 0)) w.heap.size ∧ PkAt ((((u.setCell ⟨W.heap.size, 0, none⟩ (.int .i64 0)).setCell ⟨W.heap.size, 1, none⟩ (.int .i64 0)).setCell ⟨W.heap.size, 2, none⟩ (.int .i64 0)).setCell ⟨W.heap.size, 3, none⟩ (.int .u32 0)) W.heap.size 0 ⟨0, 0, 0, 0⟩ ∧ Place3 ((((u.setCell ⟨W.heap.size, 0, none⟩ (.int .i64 0)).setCell ⟨W.heap.size, 1, none⟩ (.int .i64 0)).setCell ⟨W.heap.size, 2, none⟩ (.int .i64 0)).setCell ⟨W.heap.size, 3, none⟩ (.int .u32 0)) (w.heap.size + 1) i o l) := by
      have s4 := lay4_sans u W.heap.size 0 ⟨0, 0, 0, 0⟩
      refine ⟨HU.out.1.trans (s4.below HU.out.1.size (fun j e => by omega)), HU.out.2.sans s4 hws0, ?_, CK2.out⟩
      exact ⟨cell_set (cell_set (cell_set (World.cell?_setCell_same _ _ _ r0) (by omega)) (by omega)) (by omega), cell_set (cell_set (World.cell?_setCell_same _ _ _ (cell_set r1 (by omega))) (by omega)) (by omega), cell_set (World.cell?_setCell_same _ _ _ (cell_set (cell_set r2 (by omega)) (by omega))) (by omega), World.cell?_setCell_same _ _ _ (cell_set (cell_set (cell_set r3 (by omega)) (by omega)) (by omega))⟩
    generalize ((((u.setCell ⟨W.heap.size, 0, none⟩ (.int .i64 0)).setCell ⟨W.heap.size, 1, none⟩ (.int .i64 0)).setCell ⟨W.heap.size, 2, none⟩ (.int .i64 0)).setCell ⟨W.heap.size, 3, none⟩ (.int .u32 0)) = Z at HZ0 ⊢
    clear HU CK CK2 HF4 hb0 hb1 hb2 r0 r1 r2 r3 f0 f1 f2 f3
    have HZ := HZ0
    obtain ⟨⟨v0, r0⟩, ⟨v1, r1⟩, ⟨v2, r2⟩, ⟨v3, r3⟩, f0, f1, f2, f3⟩ := HZ.out.2.1
    obtain ⟨x0, x1, x2, x3⟩ := HZ.out.2.2.1
    go_wp2_with fail
    exact bodyPost_ret (v := .tuple #[.agg #[.int .i64 0, .int .i64 0, .int .i64 0, .int .u32 0], .bool false]) (by simp [results, Try.results14, go_sem, r0, r1, r2, r3]) rfl ⟨rfl, lay4_below (x := ⟨0, 0, 0, 0⟩) (o := 0) (later HB.out HZ.out.1) (Nat.le_refl _)⟩
set_option maxHeartbeats 2000000 in
set_option maxRecDepth 100000 in
theorem rpop_some (h : RAt w F p P L n t c Qs) (hc : c < 1000) (i o l : Int) (hq : Wf (i, o, l)) (x : Pk) (r : List Pk) (hx : Qs (i, o, l) = x :: r) :
    Calls Try.prog 14 #[.pointer (some ⟨p, 0, none⟩), .int .i64 i, .int .i64 o, .int .i64 l] w fun e w' => e = .returned (.tuple #[.agg #[.int .i64 x.s, .int .i64 x.d, .int .i64 x.l, .int .u32 x.b], .bool true]) ∧ RAt w' F p P L n (t - 1) (c + 1) (upd Qs (i, o, l) r) ∧ Sans F w w' := by
  obtain ⟨G, pp, mb, S, E, V, sl, h, hE⟩ := h
  obtain ⟨W, hW⟩ : ∃ W, W = (w.alloc (.cells #[.int .i64 0, .int .i64 0, .int .i64 0, .int .u32 0] 27)).alloc (.cells #[.int .i64 i, .int .i64 o, .int .i64 l] 51) := ⟨_, rfl⟩
  have bel : Below w.heap.size w W := by rw [hW]; exact later (fresh _ _) (fresh _ _)
  have hb0 : W.cell? ⟨w.heap.size + 1, 0, none⟩ = some (.int .i64 i) := by rw [hW]; simp
  have hb1 : W.cell? ⟨w.heap.size + 1, 1, none⟩ = some (.int .i64 o) := by rw [hW]; simp
  have hb2 : W.cell? ⟨w.heap.size + 1, 2, none⟩ = some (.int .i64 l) := by rw [hW]; simp
  have HB : Hid (Below w.heap.size w W) := bel
  have HE : Hid (E.length + t = n ∧ 1 ≤ P ∧ P ≤ 16 ∧ 1 ≤ L ∧ L ≤ 3) := hE
  have HR : Hid (RIn W F G p pp mb P L n S E c V sl Qs ∧ Qs (i, o, l) = x :: r) := ⟨h.below bel, hx⟩
  have H4 : Hid (Four W w.heap.size) := by
    have := (Four.new w (.int .i64 0) (.int .i64 0) (.int .i64 0) (.int .u32 0) 27).below (fresh _ (.cells #[.int .i64 i, .int .i64 o, .int .i64 l] 51))
    rw [← hW] at this
    exact this
  have HK : Hid (Place3 W (w.heap.size + 1) i o l) := ⟨hb0, hb1, hb2⟩
  have bZ : Hid (Below W.heap.size W (W.alloc (.cells #[.int .i64 0, .int .i64 0, .int .i64 0, .int .u32 0] 27)).drew) := later (fresh _ _) (drewN_below _ 1)
  have H5 : Hid (Four (W.alloc (.cells #[.int .i64 0, .int .i64 0, .int .i64 0, .int .u32 0] 27)).drew W.heap.size) := (Four.new W (.int .i64 0) (.int .i64 0) (.int .i64 0) (.int .u32 0) 27).below (drewN_below _ 1)
  have hws : ¬ w.heap.size + 1 = W.heap.size := by rw [hW]; simp
  have hws0 : ¬ w.heap.size = W.heap.size := by rw [hW]; simp; omega
  have nF : ∀ j, w.heap.size ≤ j → ¬ F j := fun j hj e => by have := h.foot j e; omega
  clear h hx bel hE
  go_enter Try.func14, Try.ntmps14
  go_wp2_with fail
  rw [← hW]
  clear hW
  go_region_held3 (fun w' => w'.cell? ⟨w.heap.size + 1, 0, none⟩ = some (.int .i64 i) ∧ w'.cell? ⟨w.heap.size + 1, 1, none⟩ = some (.int .i64 o) ∧ w'.cell? ⟨w.heap.size + 1, 2, none⟩ = some (.int .i64 l)) (first | exact CK2.out _ _ _ _ | exact CK2.out | exact CK.out | exact HK.out.below bZ.out | exact HK.out.below (drewN_below W 1) | go_keep)
    (first | (go_at_call 22; refine (shead_yes (HR.out.1.below (drewN_below W 1)) i o l hq x r HR.out.2).mono ?_; rintro e u ⟨rfl, hb⟩; have CK : Hid (Place3 u (w.heap.size + 1) i o l) := (HK.out.below (drewN_below W 1)).below hb; have HU : Hid (Below W.heap.size W u ∧ Four u w.heap.size) := ⟨later (drewN_below W 1) hb, (H4.out.below (drewN_below W 1)).below hb⟩; have CK2 : Hid (∀ a b c d : Value, Place3 (u.alloc (.cells #[a, b, c, d] 27)) (w.heap.size + 1) i o l) := fun _ _ _ _ => CK.out.below (fresh _ _); clear hb) | (go_at_call 22; refine (shead_yes (HR.out.1.below bZ.out) i o l hq x r HR.out.2).mono ?_; rintro e u ⟨rfl, hb⟩; have CK : Hid (Place3 u (w.heap.size + 1) i o l) := (HK.out.below bZ.out).below hb; have HU : Hid (Below W.heap.size W u ∧ Four u w.heap.size) := ⟨later bZ.out hb, (H4.out.below bZ.out).below hb⟩; have F4 := H5.out.below hb; have HF4 : Hid (Four u W.heap.size) := F4; obtain ⟨⟨v0, r0⟩, ⟨v1, r1⟩, ⟨v2, r2⟩, ⟨v3, r3⟩, f0, f1, f2, f3⟩ := F4; have CK2 : Hid (Place3 (lay4 u W.heap.size 0 x) (w.heap.size + 1) i o l) := CK.out.sans (lay4_sans u W.heap.size 0 x) hws; clear hb))
  · have HZ0 : Hid (Below W.heap.size W (u.alloc (.cells #[.int .i64 x.s, .int .i64 x.d, .int .i64 x.l, .int .u32 x.b] 27)) ∧ Four (u.alloc (.cells #[.int .i64 x.s, .int .i64 x.d, .int .i64 x.l, .int .u32 x.b] 27)) w.heap.size ∧ PkAt (u.alloc (.cells #[.int .i64 x.s, .int .i64 x.d, .int .i64 x.l, .int .u32 x.b] 27)) u.heap.size 0 x ∧ Place3 (u.alloc (.cells #[.int .i64 x.s, .int .i64 x.d, .int .i64 x.l, .int .u32 x.b] 27)) (w.heap.size + 1) i o l) := ⟨later HU.out.1 (fresh _ _), HU.out.2.below (fresh _ _), ⟨by simp, by simp, by simp, by simp⟩, CK2.out _ _ _ _⟩
    have HX : Hid (w.heap.size ≤ u.heap.size) := Nat.le_trans HB.out.size HU.out.1.size
    generalize (u.alloc (.cells #[.int .i64 x.s, .int .i64 x.d, .int .i64 x.l, .int .u32 x.b] 27)) = Z at HZ0 ⊢
    generalize u.heap.size = xb at HZ0 HX ⊢
    clear HU CK CK2 hb0 hb1 hb2
    have HZ := HZ0
    obtain ⟨k0, k1, k2⟩ := HZ.out.2.2.2
    have HQ : Hid (RIn Z F G p pp mb P L n S E c V sl Qs) := HR.out.1.below HZ.out.1
    have HN : Hid (∀ j, w.heap.size ≤ j → ¬ F j) := nF
    go_wp2_with fail
    go_region_held3 (fun w' => w'.cell? ⟨w.heap.size + 1, 0, none⟩ = some (.int .i64 i) ∧ w'.cell? ⟨w.heap.size + 1, 1, none⟩ = some (.int .i64 o) ∧ w'.cell? ⟨w.heap.size + 1, 2, none⟩ = some (.int .i64 l)) (first | exact CK3.out | exact HZ.out.2.2.2.below (drewN_below Z 1) | go_keep)
      (first | (go_at_call 25; refine (sbehead (HQ.out.below (drewN_below Z 1)) hc i o l hq x r HR.out.2).mono ?_; rintro e u3 ⟨rfl, k, V', sl', hR, hs⟩; have CK3 : Hid (Place3 u3 (w.heap.size + 1) i o l) := (HZ.out.2.2.2.below (drewN_below Z 1)).sans hs (HN.out _ (Nat.le_succ _)); have H3 : Hid (RIn u3 F G p pp mb P L n (S.set k none) (E ++ [k]) (c + 1) V' sl' (upd Qs (i, o, l) r) ∧ Sans F Z u3) := ⟨hR, (Sans.drewN Z 1).then hs⟩; clear hR hs))
    have T4 := HZ.out.2.1.sans H3.out.2 (HN.out _ (Nat.le_refl _))
    obtain ⟨⟨v0, r0⟩, ⟨v1, r1⟩, ⟨v2, r2⟩, ⟨v3, r3⟩, f0, f1, f2, f3⟩ := T4
    obtain ⟨x0, x1, x2, x3⟩ := HZ.out.2.2.1.sans H3.out.2 (HN.out _ HX.out)
    go_wp2_with fail
    have hE := HE.out
    have hkt : (E ++ [k]).length + (t - 1) = n := by
      have := H3.out.1.pool.inv.le
      rw [List.length_append] at this ⊢
      simp at this ⊢
      omega
    have s4 := lay4_sans u3 w.heap.size 0 x
    have hF := HQ.out.foot
    exact bodyPost_ret (v := .tuple #[.agg #[.int .i64 x.s, .int .i64 x.d, .int .i64 x.l, .int .u32 x.b], .bool true]) (by simp [results, Try.results14, go_sem, r0, r1, r2, r3]) rfl ⟨rfl, ⟨G, pp, mb, _, _, V', sl', H3.out.1.sans s4 (fun j hj e => HN.out j (by omega) hj), hkt, hE.2⟩, ((Sans.of_below (later HB.out HZ.out.1)).then H3.out.2).trans s4 (fun j e => .inr (by omega))⟩
  · have HZ0 : Hid (Below W.heap.size W ((((u.setCell ⟨W.heap.size, 0, none⟩ (.int .i64 x.s)).setCell ⟨W.heap.size, 1, none⟩ (.int .i64 x.d)).setCell ⟨W.heap.size, 2, none⟩ (.int .i64 x.l)).setCell ⟨W.heap.size, 3, none⟩ (.int .u32 x.b)) ∧ Four ((((u.setCell ⟨W.heap.size, 0, none⟩ (.int .i64 x.s)).setCell ⟨W.heap.size, 1, none⟩ (.int .i64 x.d)).setCell ⟨W.heap.size, 2, none⟩ (.int .i64 x.l)).setCell ⟨W.heap.size, 3, none⟩ (.int .u32 x.b)) w.heap.size ∧ PkAt ((((u.setCell ⟨W.heap.size, 0, none⟩ (.int .i64 x.s)).setCell ⟨W.heap.size, 1, none⟩ (.int .i64 x.d)).setCell ⟨W.heap.size, 2, none⟩ (.int .i64 x.l)).setCell ⟨W.heap.size, 3, none⟩ (.int .u32 x.b)) W.heap.size 0 x ∧ Place3 ((((u.setCell ⟨W.heap.size, 0, none⟩ (.int .i64 x.s)).setCell ⟨W.heap.size, 1, none⟩ (.int .i64 x.d)).setCell ⟨W.heap.size, 2, none⟩ (.int .i64 x.l)).setCell ⟨W.heap.size, 3, none⟩ (.int .u32 x.b)) (w.heap.size + 1) i o l) := by
      have s4 := lay4_sans u W.heap.size 0 x
      refine ⟨HU.out.1.trans (s4.below HU.out.1.size (fun j e => by omega)), HU.out.2.sans s4 hws0, ?_, CK2.out⟩
      exact ⟨cell_set (cell_set (cell_set (World.cell?_setCell_same _ _ _ r0) (by omega)) (by omega)) (by omega), cell_set (cell_set (World.cell?_setCell_same _ _ _ (cell_set r1 (by omega))) (by omega)) (by omega), cell_set (World.cell?_setCell_same _ _ _ (cell_set (cell_set r2 (by omega)) (by omega))) (by omega), World.cell?_setCell_same _ _ _ (cell_set (cell_set (cell_set r3 (by omega)) (by omega)) (by omega))⟩
    have HX : Hid (w.heap.size ≤ W.heap.size) := HB.out.size
    generalize ((((u.setCell ⟨W.heap.size, 0, none⟩ (.int .i64 x.s)).setCell ⟨W.heap.size, 1, none⟩ (.int .i64 x.d)).setCell ⟨W.heap.size, 2, none⟩ (.int .i64 x.l)).setCell ⟨W.heap.size, 3, none⟩ (.int .u32 x.b)) = Z at HZ0 ⊢
    clear HU CK CK2 HF4 hb0 hb1 hb2 r0 r1 r2 r3 f0 f1 f2 f3
    have HZ := HZ0
    obtain ⟨k0, k1, k2⟩ := HZ.out.2.2.2
    have HQ : Hid (RIn Z F G p pp mb P L n S E c V sl Qs) := HR.out.1.below HZ.out.1
    have HN : Hid (∀ j, w.heap.size ≤ j → ¬ F j) := nF
    go_wp2_with fail
    go_region_held3 (fun w' => w'.cell? ⟨w.heap.size + 1, 0, none⟩ = some (.int .i64 i) ∧ w'.cell? ⟨w.heap.size + 1, 1, none⟩ = some (.int .i64 o) ∧ w'.cell? ⟨w.heap.size + 1, 2, none⟩ = some (.int .i64 l)) (first | exact CK3.out | exact HZ.out.2.2.2.below (drewN_below Z 1) | go_keep)
      (first | (go_at_call 25; refine (sbehead (HQ.out.below (drewN_below Z 1)) hc i o l hq x r HR.out.2).mono ?_; rintro e u3 ⟨rfl, k, V', sl', hR, hs⟩; have CK3 : Hid (Place3 u3 (w.heap.size + 1) i o l) := (HZ.out.2.2.2.below (drewN_below Z 1)).sans hs (HN.out _ (Nat.le_succ _)); have H3 : Hid (RIn u3 F G p pp mb P L n (S.set k none) (E ++ [k]) (c + 1) V' sl' (upd Qs (i, o, l) r) ∧ Sans F Z u3) := ⟨hR, (Sans.drewN Z 1).then hs⟩; clear hR hs))
    have T4 := HZ.out.2.1.sans H3.out.2 (HN.out _ (Nat.le_refl _))
    obtain ⟨⟨v0, r0⟩, ⟨v1, r1⟩, ⟨v2, r2⟩, ⟨v3, r3⟩, f0, f1, f2, f3⟩ := T4
    obtain ⟨x0, x1, x2, x3⟩ := HZ.out.2.2.1.sans H3.out.2 (HN.out _ HX.out)
    go_wp2_with fail
    have hE := HE.out
    have hkt : (E ++ [k]).length + (t - 1) = n := by
      have := H3.out.1.pool.inv.le
      rw [List.length_append] at this ⊢
      simp at this ⊢
      omega
    have s4 := lay4_sans u3 w.heap.size 0 x
    have hF := HQ.out.foot
    exact bodyPost_ret (v := .tuple #[.agg #[.int .i64 x.s, .int .i64 x.d, .int .i64 x.l, .int .u32 x.b], .bool true]) (by simp [results, Try.results14, go_sem, r0, r1, r2, r3]) rfl ⟨rfl, ⟨G, pp, mb, _, _, V', sl', H3.out.1.sans s4 (fun j hj e => HN.out j (by omega) hj), hkt, hE.2⟩, ((Sans.of_below (later HB.out HZ.out.1)).then H3.out.2).trans s4 (fun j e => .inr (by omega))⟩
end
end Go.Proofs.Ytpbeldcaiceakaa
