/-
  Contracts and plain facts that the walks lean on (RingI, RingJ, MaskMath). Conditions: none but those that each states.
-/
import Derived.Test.YtniicgbkeifnjaaGreatDoorQ5
namespace Go.Proofs.YtniicgbkeifnjaaGreatDoor.K
open Go.ChangeShapes Go.WideShapes Go.ChangeAt Go.RowKit
set_option linter.unusedVariables false
set_option maxRecDepth 100000
def Place3 (w : World) (b : Nat) (i o l : Int) : Prop := w.cell? ⟨b, 0, none⟩ = some (.int .i64 i) ∧ w.cell? ⟨b, 1, none⟩ = some (.int .i64 o) ∧ w.cell? ⟨b, 2, none⟩ = some (.int .i64 l)
theorem Place3.sans {H : Nat → Prop} {w w' : World} {b : Nat} {i o l : Int} (h : Place3 w b i o l) (k : Sans H w w') (hb : ¬ H b) : Place3 w' b i o l :=
  ⟨(k.cell (p := ⟨b, 0, none⟩) (cell_lt h.1) hb).trans h.1, (k.cell (p := ⟨b, 1, none⟩) (cell_lt h.2.1) hb).trans h.2.1, (k.cell (p := ⟨b, 2, none⟩) (cell_lt h.2.2) hb).trans h.2.2⟩
theorem Place3.below {w w' : World} {b : Nat} {i o l : Int} (h : Place3 w b i o l) (k : Below w.heap.size w w') : Place3 w' b i o l := h.sans (H := fun _ => False) (Sans.of_below k) (fun e => e)
section
variable {w : World} {F : Nat → Prop} {p P L n t c : Nat} {Qs : Pl → List Pk}
set_option maxHeartbeats 2000000 in
set_option maxRecDepth 100000 in
theorem rpop_none (h : RAt w F p P L n t c Qs) (i o l : Int) (hq : Wf (i, o, l)) (hx : Qs (i, o, l) = []) :
    Calls Tryz.prog 174 #[.pointer (some ⟨p, 0, none⟩), .int .i64 i, .int .i64 o, .int .i64 l] w fun e w' => e = .returned (.tuple #[.agg #[.int .i64 0, .int .i64 0, .int .i64 0, .int .u32 0], .bool false]) ∧ Below w.heap.size w w' := by
  obtain ⟨G, pp, mb, S, E, V, sl, h, hE⟩ := h
  obtain ⟨W, hW⟩ : ∃ W, W = (w.alloc (.cells #[.int .i64 0, .int .i64 0, .int .i64 0, .int .u32 0] 25)).alloc (.cells #[.int .i64 i, .int .i64 o, .int .i64 l] 175) := ⟨_, rfl⟩
  have bel : Below w.heap.size w W := by rw [hW]; exact later (fresh _ _) (fresh _ _)
  have hb0 : W.cell? ⟨w.heap.size + 1, 0, none⟩ = some (.int .i64 i) := by rw [hW]; simp
  have hb1 : W.cell? ⟨w.heap.size + 1, 1, none⟩ = some (.int .i64 o) := by rw [hW]; simp
  have hb2 : W.cell? ⟨w.heap.size + 1, 2, none⟩ = some (.int .i64 l) := by rw [hW]; simp
  have HB : Hid (Below w.heap.size w W) := bel
  have HE : Hid (E.length + t = n ∧ 1 ≤ P ∧ P ≤ 16 ∧ 1 ≤ L ∧ L ≤ 3) := hE
  have HR : Hid (RIn W F G p pp mb P L n S E c V sl Qs ∧ Qs (i, o, l) = []) := ⟨h.below bel, hx⟩
  have H4 : Hid (Four W w.heap.size) := by
    have := (Four.new w (.int .i64 0) (.int .i64 0) (.int .i64 0) (.int .u32 0) 25).below (fresh _ (.cells #[.int .i64 i, .int .i64 o, .int .i64 l] 175))
    rw [← hW] at this
    exact this
  have HK : Hid (Place3 W (w.heap.size + 1) i o l) := ⟨hb0, hb1, hb2⟩
  have bZ : Hid (Below W.heap.size W (W.alloc (.cells #[.int .i64 0, .int .i64 0, .int .i64 0, .int .u32 0] 25)).drew) := later (fresh _ _) (drewN_below _ 1)
  have H5 : Hid (Four (W.alloc (.cells #[.int .i64 0, .int .i64 0, .int .i64 0, .int .u32 0] 25)).drew W.heap.size) := (Four.new W (.int .i64 0) (.int .i64 0) (.int .i64 0) (.int .u32 0) 25).below (drewN_below _ 1)
  have hws : ¬ w.heap.size + 1 = W.heap.size := by rw [hW]; simp
  have hws0 : ¬ w.heap.size = W.heap.size := by rw [hW]; simp; omega
  have nF : ∀ j, w.heap.size ≤ j → ¬ F j := fun j hj e => by have := h.foot j e; omega
  clear h hx bel hE
  go_enter Tryz.func174, Tryz.ntmps174
  go_wp2_with fail
  rw [← hW]
  clear hW
  go_region_held3 (fun w' => w'.cell? ⟨w.heap.size + 1, 0, none⟩ = some (.int .i64 i) ∧ w'.cell? ⟨w.heap.size + 1, 1, none⟩ = some (.int .i64 o) ∧ w'.cell? ⟨w.heap.size + 1, 2, none⟩ = some (.int .i64 l)) (first | exact CK2.out _ _ _ _ | exact CK2.out | exact CK.out | exact HK.out.below bZ.out | exact HK.out.below (drewN_below W 1) | go_keep)
    (first | (go_at_call 216; refine (shead_no (HR.out.1.below (drewN_below W 1)) i o l hq HR.out.2).mono ?_; rintro e u ⟨rfl, hb⟩; have CK : Hid (Place3 u (w.heap.size + 1) i o l) := (HK.out.below (drewN_below W 1)).below hb; have HU : Hid (Below W.heap.size W u ∧ Four u w.heap.size) := ⟨later (drewN_below W 1) hb, (H4.out.below (drewN_below W 1)).below hb⟩; have CK2 : Hid (∀ a b c d : Value, Place3 (u.alloc (.cells #[a, b, c, d] 25)) (w.heap.size + 1) i o l) := fun _ _ _ _ => CK.out.below (fresh _ _); clear hb) | (go_at_call 216; refine (shead_no (HR.out.1.below bZ.out) i o l hq HR.out.2).mono ?_; rintro e u ⟨rfl, hb⟩; have CK : Hid (Place3 u (w.heap.size + 1) i o l) := (HK.out.below bZ.out).below hb; have HU : Hid (Below W.heap.size W u ∧ Four u w.heap.size) := ⟨later bZ.out hb, (H4.out.below bZ.out).below hb⟩; have F4 := H5.out.below hb; have HF4 : Hid (Four u W.heap.size) := F4; obtain ⟨⟨v0, r0⟩, ⟨v1, r1⟩, ⟨v2, r2⟩, ⟨v3, r3⟩, f0, f1, f2, f3⟩ := F4; have CK2 : Hid (Place3 (lay4 u W.heap.size 0 ⟨0, 0, 0, 0⟩) (w.heap.size + 1) i o l) := CK.out.sans (lay4_sans u W.heap.size 0 ⟨0, 0, 0, 0⟩) hws; clear hb))
  · have HZ0 : Hid (Below W.heap.size W (u.alloc (.cells #[.int .i64 0, .int .i64 0, .int .i64 0, .int .u32 0] 25)) ∧ Four (u.alloc (.cells #[.int .i64 0, .int .i64 0, .int .i64 0, .int .u32 0] 25)) w.heap.size ∧ PkAt (u.alloc (.cells #[.int .i64 0, .int .i64 0, .int .i64 0, .int .u32 0] 25)) u.heap.size 0 ⟨0, 0, 0, 0⟩ ∧ Place3 (u.alloc (.cells #[.int .i64 0, .int .i64 0, .int .i64 0, .int .u32 0] 25)) (w.heap.size + 1) i o l) := ⟨later HU.out.1 (fresh _ _), HU.out.2.below (fresh _ _), ⟨by simp, by simp, by simp, by simp⟩, CK2.out _ _ _ _⟩
    generalize (u.alloc (.cells #[.int .i64 0, .int .i64 0, .int .i64 0, .int .u32 0] 25)) = Z at HZ0 ⊢
    generalize u.heap.size = xb at HZ0 ⊢
    clear HU CK CK2 hb0 hb1 hb2
    have HZ := HZ0
    obtain ⟨⟨v0, r0⟩, ⟨v1, r1⟩, ⟨v2, r2⟩, ⟨v3, r3⟩, f0, f1, f2, f3⟩ := HZ.out.2.1
    obtain ⟨x0, x1, x2, x3⟩ := HZ.out.2.2.1
    go_wp2_with fail
    exact bodyPost_ret (v := .tuple #[.agg #[.int .i64 0, .int .i64 0, .int .i64 0, .int .u32 0], .bool false]) (by simp [results, Tryz.results174, go_sem, r0, r1, r2, r3]) rfl ⟨rfl, lay4_below (x := ⟨0, 0, 0, 0⟩) (o := 0) (later HB.out HZ.out.1) (Nat.le_refl _)⟩
  · have HZ0 : Hid (Below W.heap.size W ((((u.setCell ⟨W.heap.size, 0, none⟩ (.int .i64 0)).setCell ⟨W.heap.size, 1, none⟩ (.int .i64 0)).setCell ⟨W.heap.size, 2, none⟩ (.int .i64 0)).setCell ⟨W.heap.size, 3, none⟩ (.int .u32 0)) ∧ Four ((((u.setCell ⟨W.heap.size, 0, none⟩ (.int .i64 0)).setCell ⟨W.heap.size, 1, none⟩ (.int .i64 0)).setCell ⟨W.heap.size, 2, none⟩ (.int .i64 0)).setCell ⟨W.heap.size, 3, none⟩ (.int .u32 0)) w.heap.size ∧ PkAt ((((u.setCell ⟨W.heap.size, 0, none⟩ (.int .i64 0)).setCell ⟨W.heap.size, 1, none⟩ (.int .i64 0)).setCell ⟨W.heap.size, 2, none⟩ (.int .i64 0)).setCell ⟨W.heap.size, 3, none⟩ (.int .u32 0)) W.heap.size 0 ⟨0, 0, 0, 0⟩ ∧ Place3 ((((u.setCell ⟨W.heap.size, 0, none⟩ (.int .i64 0)).setCell ⟨W.heap.size, 1, none⟩ (.int .i64 0)).setCell ⟨W.heap.size, 2, none⟩ (.int .i64 0)).setCell ⟨W.heap.size, 3, none⟩ (.int .u32 0)) (w.heap.size + 1) i o l) := by
      have s4 := lay4_sans u W.heap.size 0 ⟨0, 0, 0, 0⟩
      refine ⟨HU.out.1.trans (s4.below HU.out.1.size (fun j e => by omega)), HU.out.2.sans s4 hws0, ?_, CK2.out⟩
      exact ⟨cell_set (cell_set (cell_set (World.cell?_setCell_same _ _ _ r0) (by omega)) (by omega)) (by omega), cell_set (cell_set (World.cell?_setCell_same _ _ _ (cell_set r1 (by omega))) (by omega)) (by omega), cell_set (World.cell?_setCell_same _ _ _ (cell_set (cell_set r2 (by omega)) (by omega))) (by omega), World.cell?_setCell_same _ _ _ (cell_set (cell_set (cell_set r3 (by omega)) (by omega)) (by omega))⟩
    generalize ((((u.setCell ⟨W.heap.size, 0, none⟩ (.int .i64 0)).setCell ⟨W.heap.size, 1, none⟩ (.int .i64 0)).setCell ⟨W.heap.size, 2, none⟩ (.int .i64 0)).setCell ⟨W.heap.size, 3, none⟩ (.int .u32 0)) = Z at HZ0 ⊢
    clear HU CK CK2 HF4 hb0 hb1 hb2 r0 r1 r2 r3 f0 f1 f2 f3
    have HZ := HZ0
    obtain ⟨⟨v0, r0⟩, ⟨v1, r1⟩, ⟨v2, r2⟩, ⟨v3, r3⟩, f0, f1, f2, f3⟩ := HZ.out.2.1
    obtain ⟨x0, x1, x2, x3⟩ := HZ.out.2.2.1
    go_wp2_with fail
    exact bodyPost_ret (v := .tuple #[.agg #[.int .i64 0, .int .i64 0, .int .i64 0, .int .u32 0], .bool false]) (by simp [results, Tryz.results174, go_sem, r0, r1, r2, r3]) rfl ⟨rfl, lay4_below (x := ⟨0, 0, 0, 0⟩) (o := 0) (later HB.out HZ.out.1) (Nat.le_refl _)⟩
set_option maxHeartbeats 2000000 in
set_option maxRecDepth 100000 in
theorem rpop_some (h : RAt w F p P L n t c Qs) (hc : c < 1000000) (i o l : Int) (hq : Wf (i, o, l)) (x : Pk) (r : List Pk) (hx : Qs (i, o, l) = x :: r) :
    Calls Tryz.prog 174 #[.pointer (some ⟨p, 0, none⟩), .int .i64 i, .int .i64 o, .int .i64 l] w fun e w' => e = .returned (.tuple #[.agg #[.int .i64 x.s, .int .i64 x.d, .int .i64 x.l, .int .u32 x.b], .bool true]) ∧ RAt w' F p P L n (t - 1) (c + 1) (upd Qs (i, o, l) r) ∧ Sans F w w' := by
  obtain ⟨G, pp, mb, S, E, V, sl, h, hE⟩ := h
  obtain ⟨W, hW⟩ : ∃ W, W = (w.alloc (.cells #[.int .i64 0, .int .i64 0, .int .i64 0, .int .u32 0] 25)).alloc (.cells #[.int .i64 i, .int .i64 o, .int .i64 l] 175) := ⟨_, rfl⟩
  have bel : Below w.heap.size w W := by rw [hW]; exact later (fresh _ _) (fresh _ _)
  have hb0 : W.cell? ⟨w.heap.size + 1, 0, none⟩ = some (.int .i64 i) := by rw [hW]; simp
  have hb1 : W.cell? ⟨w.heap.size + 1, 1, none⟩ = some (.int .i64 o) := by rw [hW]; simp
  have hb2 : W.cell? ⟨w.heap.size + 1, 2, none⟩ = some (.int .i64 l) := by rw [hW]; simp
  have HB : Hid (Below w.heap.size w W) := bel
  have HE : Hid (E.length + t = n ∧ 1 ≤ P ∧ P ≤ 16 ∧ 1 ≤ L ∧ L ≤ 3) := hE
  have HR : Hid (RIn W F G p pp mb P L n S E c V sl Qs ∧ Qs (i, o, l) = x :: r) := ⟨h.below bel, hx⟩
  have H4 : Hid (Four W w.heap.size) := by
    have := (Four.new w (.int .i64 0) (.int .i64 0) (.int .i64 0) (.int .u32 0) 25).below (fresh _ (.cells #[.int .i64 i, .int .i64 o, .int .i64 l] 175))
    rw [← hW] at this
    exact this
  have HK : Hid (Place3 W (w.heap.size + 1) i o l) := ⟨hb0, hb1, hb2⟩
  have bZ : Hid (Below W.heap.size W (W.alloc (.cells #[.int .i64 0, .int .i64 0, .int .i64 0, .int .u32 0] 25)).drew) := later (fresh _ _) (drewN_below _ 1)
  have H5 : Hid (Four (W.alloc (.cells #[.int .i64 0, .int .i64 0, .int .i64 0, .int .u32 0] 25)).drew W.heap.size) := (Four.new W (.int .i64 0) (.int .i64 0) (.int .i64 0) (.int .u32 0) 25).below (drewN_below _ 1)
  have hws : ¬ w.heap.size + 1 = W.heap.size := by rw [hW]; simp
  have hws0 : ¬ w.heap.size = W.heap.size := by rw [hW]; simp; omega
  have nF : ∀ j, w.heap.size ≤ j → ¬ F j := fun j hj e => by have := h.foot j e; omega
  clear h hx bel hE
  go_enter Tryz.func174, Tryz.ntmps174
  go_wp2_with fail
  rw [← hW]
  clear hW
  go_region_held3 (fun w' => w'.cell? ⟨w.heap.size + 1, 0, none⟩ = some (.int .i64 i) ∧ w'.cell? ⟨w.heap.size + 1, 1, none⟩ = some (.int .i64 o) ∧ w'.cell? ⟨w.heap.size + 1, 2, none⟩ = some (.int .i64 l)) (first | exact CK2.out _ _ _ _ | exact CK2.out | exact CK.out | exact HK.out.below bZ.out | exact HK.out.below (drewN_below W 1) | go_keep)
    (first | (go_at_call 216; refine (shead_yes (HR.out.1.below (drewN_below W 1)) i o l hq x r HR.out.2).mono ?_; rintro e u ⟨rfl, hb⟩; have CK : Hid (Place3 u (w.heap.size + 1) i o l) := (HK.out.below (drewN_below W 1)).below hb; have HU : Hid (Below W.heap.size W u ∧ Four u w.heap.size) := ⟨later (drewN_below W 1) hb, (H4.out.below (drewN_below W 1)).below hb⟩; have CK2 : Hid (∀ a b c d : Value, Place3 (u.alloc (.cells #[a, b, c, d] 25)) (w.heap.size + 1) i o l) := fun _ _ _ _ => CK.out.below (fresh _ _); clear hb) | (go_at_call 216; refine (shead_yes (HR.out.1.below bZ.out) i o l hq x r HR.out.2).mono ?_; rintro e u ⟨rfl, hb⟩; have CK : Hid (Place3 u (w.heap.size + 1) i o l) := (HK.out.below bZ.out).below hb; have HU : Hid (Below W.heap.size W u ∧ Four u w.heap.size) := ⟨later bZ.out hb, (H4.out.below bZ.out).below hb⟩; have F4 := H5.out.below hb; have HF4 : Hid (Four u W.heap.size) := F4; obtain ⟨⟨v0, r0⟩, ⟨v1, r1⟩, ⟨v2, r2⟩, ⟨v3, r3⟩, f0, f1, f2, f3⟩ := F4; have CK2 : Hid (Place3 (lay4 u W.heap.size 0 x) (w.heap.size + 1) i o l) := CK.out.sans (lay4_sans u W.heap.size 0 x) hws; clear hb))
  · have HZ0 : Hid (Below W.heap.size W (u.alloc (.cells #[.int .i64 x.s, .int .i64 x.d, .int .i64 x.l, .int .u32 x.b] 25)) ∧ Four (u.alloc (.cells #[.int .i64 x.s, .int .i64 x.d, .int .i64 x.l, .int .u32 x.b] 25)) w.heap.size ∧ PkAt (u.alloc (.cells #[.int .i64 x.s, .int .i64 x.d, .int .i64 x.l, .int .u32 x.b] 25)) u.heap.size 0 x ∧ Place3 (u.alloc (.cells #[.int .i64 x.s, .int .i64 x.d, .int .i64 x.l, .int .u32 x.b] 25)) (w.heap.size + 1) i o l) := ⟨later HU.out.1 (fresh _ _), HU.out.2.below (fresh _ _), ⟨by simp, by simp, by simp, by simp⟩, CK2.out _ _ _ _⟩
    have HX : Hid (w.heap.size ≤ u.heap.size) := Nat.le_trans HB.out.size HU.out.1.size
    generalize (u.alloc (.cells #[.int .i64 x.s, .int .i64 x.d, .int .i64 x.l, .int .u32 x.b] 25)) = Z at HZ0 ⊢
    generalize u.heap.size = xb at HZ0 HX ⊢
    clear HU CK CK2 hb0 hb1 hb2
    have HZ := HZ0
    obtain ⟨k0, k1, k2⟩ := HZ.out.2.2.2
    have HQ : Hid (RIn Z F G p pp mb P L n S E c V sl Qs) := HR.out.1.below HZ.out.1
    have HN : Hid (∀ j, w.heap.size ≤ j → ¬ F j) := nF
    go_wp2_with fail
    go_region_held3 (fun w' => w'.cell? ⟨w.heap.size + 1, 0, none⟩ = some (.int .i64 i) ∧ w'.cell? ⟨w.heap.size + 1, 1, none⟩ = some (.int .i64 o) ∧ w'.cell? ⟨w.heap.size + 1, 2, none⟩ = some (.int .i64 l)) (first | exact CK3.out | exact HZ.out.2.2.2.below (drewN_below Z 1) | go_keep)
      (first | (go_at_call 217; refine (sbehead (HQ.out.below (drewN_below Z 1)) hc i o l hq x r HR.out.2).mono ?_; rintro e u3 ⟨rfl, k, V', sl', hR, hs⟩; have CK3 : Hid (Place3 u3 (w.heap.size + 1) i o l) := (HZ.out.2.2.2.below (drewN_below Z 1)).sans hs (HN.out _ (Nat.le_succ _)); have H3 : Hid (RIn u3 F G p pp mb P L n (S.set k none) (E ++ [k]) (c + 1) V' sl' (upd Qs (i, o, l) r) ∧ Sans F Z u3) := ⟨hR, (Sans.drewN Z 1).then hs⟩; clear hR hs))
    have T4 := HZ.out.2.1.sans H3.out.2 (HN.out _ (Nat.le_refl _))
    obtain ⟨⟨v0, r0⟩, ⟨v1, r1⟩, ⟨v2, r2⟩, ⟨v3, r3⟩, f0, f1, f2, f3⟩ := T4
    obtain ⟨x0, x1, x2, x3⟩ := HZ.out.2.2.1.sans H3.out.2 (HN.out _ HX.out)
    go_wp2_with fail
    have hE := HE.out
    have hkt : (E ++ [k]).length + (t - 1) = n := by
      have := H3.out.1.pool.inv.le
      rw [List.length_append] at this ⊢
      simp at this ⊢
      omega
    have s4 := lay4_sans u3 w.heap.size 0 x
    have hF := HQ.out.foot
    exact bodyPost_ret (v := .tuple #[.agg #[.int .i64 x.s, .int .i64 x.d, .int .i64 x.l, .int .u32 x.b], .bool true]) (by simp [results, Tryz.results174, go_sem, r0, r1, r2, r3]) rfl ⟨rfl, ⟨G, pp, mb, _, _, V', sl', H3.out.1.sans s4 (fun j hj e => HN.out j (by omega) hj), hkt, hE.2⟩, ((Sans.of_below (later HB.out HZ.out.1)).then H3.out.2).trans s4 (fun j e => .inr (by omega))⟩
  · have HZ0 : Hid (Below W.heap.size W ((((u.setCell ⟨W.heap.size, 0, none⟩ (.int .i64 x.s)).setCell ⟨W.heap.size, 1, none⟩ (.int .i64 x.d)).setCell ⟨W.heap.size, 2, none⟩ (.int .i64 x.l)).setCell ⟨W.heap.size, 3, none⟩ (.int .u32 x.b)) ∧ Four ((((u.setCell ⟨W.heap.size, 0, none⟩ (.int .i64 x.s)).setCell ⟨W.heap.size, 1, none⟩ (.int .i64 x.d)).setCell ⟨W.heap.size, 2, none⟩ (.int .i64 x.l)).setCell ⟨W.heap.size, 3, none⟩ (.int .u32 x.b)) w.heap.size ∧ PkAt ((((u.setCell ⟨W.heap.size, 0, none⟩ (.int .i64 x.s)).setCell ⟨W.heap.size, 1, none⟩ (.int .i64 x.d)).setCell ⟨W.heap.size, 2, none⟩ (.int .i64 x.l)).setCell ⟨W.heap.size, 3, none⟩ (.int .u32 x.b)) W.heap.size 0 x ∧ Place3 ((((u.setCell ⟨W.heap.size, 0, none⟩ (.int .i64 x.s)).setCell ⟨W.heap.size, 1, none⟩ (.int .i64 x.d)).setCell ⟨W.heap.size, 2, none⟩ (.int .i64 x.l)).setCell ⟨W.heap.size, 3, none⟩ (.int .u32 x.b)) (w.heap.size + 1) i o l) := by
      have s4 := lay4_sans u W.heap.size 0 x
      refine ⟨HU.out.1.trans (s4.below HU.out.1.size (fun j e => by omega)), HU.out.2.sans s4 hws0, ?_, CK2.out⟩
      exact ⟨cell_set (cell_set (cell_set (World.cell?_setCell_same _ _ _ r0) (by omega)) (by omega)) (by omega), cell_set (cell_set (World.cell?_setCell_same _ _ _ (cell_set r1 (by omega))) (by omega)) (by omega), cell_set (World.cell?_setCell_same _ _ _ (cell_set (cell_set r2 (by omega)) (by omega))) (by omega), World.cell?_setCell_same _ _ _ (cell_set (cell_set (cell_set r3 (by omega)) (by omega)) (by omega))⟩
    have HX : Hid (w.heap.size ≤ W.heap.size) := HB.out.size
    generalize ((((u.setCell ⟨W.heap.size, 0, none⟩ (.int .i64 x.s)).setCell ⟨W.heap.size, 1, none⟩ (.int .i64 x.d)).setCell ⟨W.heap.size, 2, none⟩ (.int .i64 x.l)).setCell ⟨W.heap.size, 3, none⟩ (.int .u32 x.b)) = Z at HZ0 ⊢
    clear HU CK CK2 HF4 hb0 hb1 hb2 r0 r1 r2 r3 f0 f1 f2 f3
    have HZ := HZ0
    obtain ⟨k0, k1, k2⟩ := HZ.out.2.2.2
    have HQ : Hid (RIn Z F G p pp mb P L n S E c V sl Qs) := HR.out.1.below HZ.out.1
    have HN : Hid (∀ j, w.heap.size ≤ j → ¬ F j) := nF
    go_wp2_with fail
    go_region_held3 (fun w' => w'.cell? ⟨w.heap.size + 1, 0, none⟩ = some (.int .i64 i) ∧ w'.cell? ⟨w.heap.size + 1, 1, none⟩ = some (.int .i64 o) ∧ w'.cell? ⟨w.heap.size + 1, 2, none⟩ = some (.int .i64 l)) (first | exact CK3.out | exact HZ.out.2.2.2.below (drewN_below Z 1) | go_keep)
      (first | (go_at_call 217; refine (sbehead (HQ.out.below (drewN_below Z 1)) hc i o l hq x r HR.out.2).mono ?_; rintro e u3 ⟨rfl, k, V', sl', hR, hs⟩; have CK3 : Hid (Place3 u3 (w.heap.size + 1) i o l) := (HZ.out.2.2.2.below (drewN_below Z 1)).sans hs (HN.out _ (Nat.le_succ _)); have H3 : Hid (RIn u3 F G p pp mb P L n (S.set k none) (E ++ [k]) (c + 1) V' sl' (upd Qs (i, o, l) r) ∧ Sans F Z u3) := ⟨hR, (Sans.drewN Z 1).then hs⟩; clear hR hs))
    have T4 := HZ.out.2.1.sans H3.out.2 (HN.out _ (Nat.le_refl _))
    obtain ⟨⟨v0, r0⟩, ⟨v1, r1⟩, ⟨v2, r2⟩, ⟨v3, r3⟩, f0, f1, f2, f3⟩ := T4
    obtain ⟨x0, x1, x2, x3⟩ := HZ.out.2.2.1.sans H3.out.2 (HN.out _ HX.out)
    go_wp2_with fail
    have hE := HE.out
    have hkt : (E ++ [k]).length + (t - 1) = n := by
      have := H3.out.1.pool.inv.le
      rw [List.length_append] at this ⊢
      simp at this ⊢
      omega
    have s4 := lay4_sans u3 w.heap.size 0 x
    have hF := HQ.out.foot
    exact bodyPost_ret (v := .tuple #[.agg #[.int .i64 x.s, .int .i64 x.d, .int .i64 x.l, .int .u32 x.b], .bool true]) (by simp [results, Tryz.results174, go_sem, r0, r1, r2, r3]) rfl ⟨rfl, ⟨G, pp, mb, _, _, V', sl', H3.out.1.sans s4 (fun j hj e => HN.out j (by omega) hj), hkt, hE.2⟩, ((Sans.of_below (later HB.out HZ.out.1)).then H3.out.2).trans s4 (fun j e => .inr (by omega))⟩
end
end Go.Proofs.YtniicgbkeifnjaaGreatDoor.K
namespace Go.Proofs.YtniicgbkeifnjaaGreatDoor.K
open Go.ChangeShapes Go.WideShapes Go.ChangeAt Go.RowKit
set_option linter.unusedVariables false
set_option maxRecDepth 100000
def popT (b : Bool) (t : Nat) : Nat := if b then t - 1 else t
theorem upd_self {α : Type} (f : Pl → α) (q : Pl) : upd f q (f q) = f := by
  funext r
  by_cases e : r = q
  · rw [e, upd_same]
  · rw [upd_other _ _ e]
theorem take_snoc {xs : List Pk} {k : Nat} {x : Pk} (h : xs[k]? = some x) : xs.take (k + 1) = xs.take k ++ [x] := by
  rw [List.take_add_one, h]; rfl
section
variable {w : World} {F : Nat → Prop} {p P L n t c : Nat} {Qs : Pl → List Pk}
theorem rpop_any (h : RAt w F p P L n t c Qs) (hc : c < 1000000) (i o l : Int) (hq : Wf (i, o, l)) (x : Pk) (b : Bool) (hx : hd (Qs (i, o, l)) = x) (hb : (!(Qs (i, o, l)).isEmpty) = b) :
    Calls Tryz.prog 174 #[.pointer (some ⟨p, 0, none⟩), .int .i64 i, .int .i64 o, .int .i64 l] w fun e w' => e = .returned (.tuple #[.agg #[.int .i64 x.s, .int .i64 x.d, .int .i64 x.l, .int .u32 x.b], .bool b]) ∧ RAt w' F p P L n (popT b t) (c + 1) (upd Qs (i, o, l) (Qs (i, o, l)).tail) ∧ Sans F w w' := by
  cases hc2 : Qs (i, o, l) with
  | nil =>
    rw [hc2] at hx hb
    subst hx hb
    refine (rpop_none h i o l hq hc2).mono ?_
    rintro e w' ⟨he, hbel⟩
    refine ⟨he, ?_, Sans.of_below hbel⟩
    have e2 : upd Qs (i, o, l) ([] : List Pk).tail = Qs := by
      have := upd_self Qs (i, o, l)
      rw [hc2] at this
      exact this
    rw [e2]
    exact (h.below hbel).mono (Nat.le_succ _)
  | cons y r =>
    rw [hc2] at hx hb
    subst hx hb
    exact rpop_some h hc i o l hq y r hc2
end
end Go.Proofs.YtniicgbkeifnjaaGreatDoor.K
namespace Go.Proofs.YtniicgbkeifnjaaGreatDoor.M.Mask
set_option linter.unusedSimpArgs false
def bitsOf (m : Nat) : List Nat := (List.range 16).filter fun i => m.testBit i
theorem bit_lt {m i : Nat} (hm : m < 65536) (h : m.testBit i = true) : i < 16 := by
  rcases Nat.lt_or_ge i 16 with h' | h'
  · exact h'
  · have : m.testBit i = false := Nat.testBit_lt_two_pow (Nat.lt_of_lt_of_le (show m < 2 ^ 16 from hm) (Nat.pow_le_pow_right (by omega) h'))
    rw [this] at h; cases h
theorem mem_bits {m i : Nat} (hm : m < 65536) : i ∈ bitsOf m ↔ m.testBit i = true := by
  unfold bitsOf
  rw [List.mem_filter, List.mem_range]
  exact ⟨fun h => h.2, fun h => ⟨bit_lt hm h, h⟩⟩
theorem bits_sorted (m : Nat) : (bitsOf m).Pairwise (· < ·) := List.Pairwise.filter _ List.pairwise_lt_range
theorem bits_zero : bitsOf 0 = [] := by decide
theorem lowest : ∀ (m : Nat), m ≠ 0 → ∃ i q, m = 2 ^ i * (2 * q + 1)
  | m, h => by
    rcases Nat.mod_two_eq_zero_or_one m with e | e
    · have hlt : m / 2 < m := by omega
      obtain ⟨i, q, hq⟩ := lowest (m / 2) (by omega)
      refine ⟨i + 1, q, ?_⟩
      rw [Nat.pow_succ, Nat.mul_comm (2 ^ i) 2, Nat.mul_assoc, ← hq]
      omega
    · exact ⟨0, m / 2, by rw [Nat.pow_zero]; omega⟩
theorem odd_bit (q s : Nat) : (2 * q + 1).testBit s = if s = 0 then true else q.testBit (s - 1) := by
  cases s with
  | zero => simp [Nat.testBit_zero]
  | succ s => rw [Nat.testBit_succ, show (2 * q + 1) / 2 = q by omega]; simp
theorem even_bit (q s : Nat) : (2 * q).testBit s = if s = 0 then false else q.testBit (s - 1) := by
  cases s with
  | zero => simp [Nat.testBit_zero]
  | succ s => rw [Nat.testBit_succ, show (2 * q) / 2 = q by omega]; simp
theorem low_at (i q j : Nat) : (2 ^ i * (2 * q + 1)).testBit j = if j < i then false else (2 * q + 1).testBit (j - i) := by
  have := Nat.testBit_two_pow_mul_add (2 * q + 1) (b := 0) (i := i) (Nat.two_pow_pos i) j
  rw [Nat.add_zero] at this
  rw [this]
  simp
theorem less_at (i q j : Nat) : (2 ^ i * (2 * q + 1) - 1).testBit j = if j < i then true else (2 * q).testBit (j - i) := by
  have hp := Nat.two_pow_pos i
  have := Nat.testBit_two_pow_mul_add (2 * q) (b := 2 ^ i - 1) (i := i) (by omega) j
  rw [show 2 ^ i * (2 * q + 1) - 1 = 2 ^ i * (2 * q) + (2 ^ i - 1) by rw [Nat.mul_add, Nat.mul_one]; omega, this, Nat.testBit_two_pow_sub_one]
  split <;> simp_all
theorem strike_at (i q j : Nat) : (2 ^ i * (2 * q + 1) &&& (2 ^ i * (2 * q + 1) - 1)).testBit j = ((2 ^ i * (2 * q + 1)).testBit j && decide (j ≠ i)) := by
  rw [Nat.testBit_and, low_at, less_at, odd_bit, even_bit]
  by_cases h : j < i
  · simp [h]
  · by_cases e : j = i
    · subst e; simp
    · have : j - i ≠ 0 := by omega
      simp [h, this, e]
theorem alone_is (i q : Nat) (h : 2 ^ i * (2 * q + 1) < 65536) : (2 ^ i * (2 * q + 1) &&& (65536 - 2 ^ i * (2 * q + 1))) = 2 ^ i := by
  have hp : 0 < 2 ^ i * (2 * q + 1) := Nat.mul_pos (Nat.two_pow_pos i) (by omega)
  apply Nat.eq_of_testBit_eq
  intro j
  have hs := Nat.testBit_two_pow_sub_succ (n := 16) (x := 2 ^ i * (2 * q + 1) - 1) (by omega) j
  rw [show (2 : Nat) ^ 16 - (2 ^ i * (2 * q + 1) - 1 + 1) = 65536 - 2 ^ i * (2 * q + 1) by omega] at hs
  rw [Nat.testBit_and, hs, low_at, less_at, odd_bit, even_bit, Nat.testBit_two_pow]
  have hi : i < 16 := by
    rcases Nat.lt_or_ge i 16 with h' | h'
    · exact h'
    · exfalso
      have h1 : (2 : Nat) ^ 16 ≤ 2 ^ i := Nat.pow_le_pow_right (by omega) h'
      have h2 : 2 ^ i * 1 ≤ 2 ^ i * (2 * q + 1) := Nat.mul_le_mul_left _ (by omega)
      omega
  by_cases h1 : j < i
  · have : ¬ i = j := by omega
    simp [h1, this]
  · by_cases e : i = j
    · subst e; simp [hi]
    · have : j - i ≠ 0 := by omega
      simp [h1, this, e]
      intro h _
      exact h
theorem low_lt {i q : Nat} (h : 2 ^ i * (2 * q + 1) < 65536) : i < 16 := by
  refine bit_lt h ?_
  rw [low_at, odd_bit]
  simp
theorem bits_cons {i q : Nat} (h : 2 ^ i * (2 * q + 1) < 65536) : bitsOf (2 ^ i * (2 * q + 1)) = i :: bitsOf (2 ^ i * (2 * q + 1) &&& (2 ^ i * (2 * q + 1) - 1)) := by
  have hi := low_lt h
  unfold bitsOf
  rw [show (16 : Nat) = i + (1 + (15 - i)) by omega, List.range_add, List.range_add]
  simp only [List.filter_append, List.map_append, List.filter_map, Function.comp_def, strike_at]
  have e1 : (List.range i).filter (fun j => (2 ^ i * (2 * q + 1)).testBit j) = [] := by
    rw [List.filter_eq_nil_iff]
    intro j hj
    rw [low_at, if_pos (List.mem_range.1 hj)]
    simp
  have e2 : (List.range i).filter (fun j => (2 ^ i * (2 * q + 1)).testBit j && decide (j ≠ i)) = [] := by
    rw [List.filter_eq_nil_iff]
    intro j hj
    rw [low_at, if_pos (List.mem_range.1 hj)]
    simp
  have e3 : (2 ^ i * (2 * q + 1)).testBit (i + 0) = true := by rw [low_at, odd_bit]; simp
  have e4 : (List.range 1).filter (fun x => (2 ^ i * (2 * q + 1)).testBit (i + x)) = [0] := by
    rw [show List.range 1 = [0] from rfl, List.filter_cons, e3]
    simp
  rw [e1, e2]
  simp [e4]
  have e5 : [0].filter (fun x => (2 ^ i * (2 * q + 1)).testBit (i + x)) = [0] := e4
  rw [e5]
  simp
def tab : List Int := [0, 1, 28, 2, 29, 14, 24, 3, 30, 22, 20, 15, 25, 17, 4, 8, 31, 27, 13, 23, 21, 19, 16, 7, 26, 12, 18, 6, 11, 5, 10, 9]
theorem tab_at : ∀ i, i < 16 → 2 ^ i * 125613361 % 4294967296 / 134217728 < 32 ∧ tab.getD (2 ^ i * 125613361 % 4294967296 / 134217728) 0 = (i : Nat) := by decide
def roundOf (f n : Nat) : List Nat := (List.range n).map fun i => (f + i) % n
def pick (m f n : Nat) : Int := match (roundOf f n).find? (fun i => m.testBit i) with
  | some i => (i : Nat)
  | none => -1
theorem round_len (f n : Nat) : (roundOf f n).length = n := by simp [roundOf]
def col (rows : List Nat) (k : Nat) : Nat → Nat
  | 0 => 0
  | i + 1 => col rows k i + if (rows.getD i 0).testBit k then 2 ^ i else 0
theorem col_lt (rows : List Nat) (k : Nat) : ∀ i, col rows k i < 2 ^ i
  | 0 => by simp [col]
  | i + 1 => by
    have := col_lt rows k i
    rw [col, Nat.pow_succ]
    split <;> omega
theorem or_pow {a i : Nat} (h : a < 2 ^ i) : a ||| 2 ^ i = a + 2 ^ i := by
  have := Nat.two_pow_add_eq_or_of_lt h 1
  rw [Nat.mul_one] at this
  rw [Nat.or_comm, ← this, Nat.add_comm]
theorem col_bit (rows : List Nat) (k : Nat) : ∀ i j, (col rows k i).testBit j = (decide (j < i) && (rows.getD j 0).testBit k)
  | 0, j => by simp [col]
  | i + 1, j => by
    have ih := col_bit rows k i j
    have hl := col_lt rows k i
    rw [col]
    by_cases h : (rows.getD i 0).testBit k = true
    · rw [if_pos h, ← or_pow hl, Nat.testBit_or, ih, Nat.testBit_two_pow]
      by_cases e : i = j
      · subst e; rw [h]; simp
      · have e1 : decide (i = j) = false := by simp [e]
        have e2 : decide (j < i + 1) = decide (j < i) := by rw [decide_eq_decide]; omega
        rw [e1, e2]; simp
    · have h' : (rows.getD i 0).testBit k = false := by simpa using h
      rw [if_neg h, Nat.add_zero, ih]
      by_cases e : i = j
      · subst e; rw [h']; simp
      · have e2 : decide (j < i + 1) = decide (j < i) := by rw [decide_eq_decide]; omega
        rw [e2]
def turn (rows : List Nat) (n : Nat) : List Nat := (List.range n).map fun k => col rows k (min rows.length 16)
theorem turn_at {rows : List Nat} {n k : Nat} (h : k < n) : (turn rows n).getD k 0 = col rows k (min rows.length 16) := by simp [turn, List.getD, h]
theorem col_lt16 (rows : List Nat) (k i : Nat) (h : i ≤ 16) : col rows k i < 65536 := Nat.lt_of_lt_of_le (col_lt rows k i) (Nat.pow_le_pow_right (by omega) h)
end Go.Proofs.YtniicgbkeifnjaaGreatDoor.M.Mask
