/-
  Contracts and plain facts that the walks lean on (RefTreeC). Conditions: none but those that each states.
-/
import Derived.Test.YtniicgbkeifnjaaGreatDoorQ35
namespace Go.Proofs.YtniicgbkeifnjaaGreatDoor
open Go.ChangeShapes Go.WideShapes Go.ChangeAt Go.RowKit
set_option linter.unusedVariables false
set_option maxRecDepth 100000
theorem Bx.set0 {w : World} {b : Nat} {p : PV} (h : Bx w b p) (z : Int) : Bx (w.setCell ⟨b, 0, none⟩ (.int .i64 z)) b { p with nodes := z } :=
  ⟨⟨World.cell?_setCell_same _ _ _ h.x.c0, cell_set h.x.c1 (by omega), cell_set h.x.c2 (by omega), cell_set h.x.c3 (by omega), cell_set h.x.c4 (by omega), cell_set h.x.c5 (by omega), cell_set h.x.c6 (by omega), cell_set h.x.c7 (by omega), cell_set h.x.c8 (by omega), cell_set h.x.c9 (by omega), cell_set h.x.c10 (by omega)⟩, fun k => by rw [World.frozen?_setCell]; exact h.f k⟩
theorem later' {B : Nat} {w w1 w2 : World} (h : Below B w w1) (k : Below w1.heap.size w1 w2) (hB : B ≤ w1.heap.size) : Below B w w2 := h.trans (k.mono hB)
theorem lay_start (w : World) (p : PV) (W : World) (hW : (w.alloc p.obj).alloc pz.obj = W) : Bx W w.heap.size p ∧ Bx W (w.heap.size + 1) pz ∧ Below w.heap.size w W ∧ W.heap.size = w.heap.size + 1 + 1 := by
  subst hW
  have h1 := bx_new (w.alloc p.obj) pz
  rw [World.size_alloc] at h1
  exact ⟨(bx_new w p).below (fresh _ _) (by simp), h1, later (fresh _ _) (fresh _ _), by simp⟩
def LayEnd (k : IntKind) (base : Nat) (p : PV) (ps ws : List Int) (e : Ending) (w' : World) : Prop := (Tree.layOk ps = true ∧ ∃ q : PV, e = .returned (.tuple #[q.val, .int k 0]) ∧ Laid base p ps ws q w') ∨ (Tree.layOk ps = false ∧ e = .returned (.tuple #[pz.val, .int k 120]))
theorem LayEnd.bad {k : IntKind} {base : Nat} {p : PV} {ps ws : List Int} {w' : World} (h : Tree.layOk ps = false) : LayEnd k base p ps ws (.returned (.tuple #[pz.val, .int k 120])) w' := .inr ⟨h, rfl⟩
theorem LayEnd.good {k : IntKind} {base : Nat} {p : PV} {ps ws : List Int} {w' : World} (h : Tree.layOk ps = true) {q : PV} (hq : Laid base p ps ws q w') : LayEnd k base p ps ws (.returned (.tuple #[q.val, .int k 0])) w' := .inl ⟨h, q, rfl, hq⟩
namespace Tree
theorem edges_len (ps : List Int) : (edges ps).length = ps.length := by unfold edges; rw [List.length_map, List.length_range]
theorem rows_len (ps : List Int) : (rows ps).length = ps.length + 1 := by unfold rows; rw [List.length_map, List.length_range]
theorem row_len (ps : List Int) (v : Nat) : (row ps v).length = ps.length + 1 := by unfold row; rw [List.length_map, List.length_range]
theorem edges_take {ps : List Int} {k : Nat} (h : k < ps.length) : (edges ps).take k ++ [(ps.getD k 0, ((k + 1 : Nat) : Int))] = (edges ps).take (k + 1) := by
  have hl : k < (edges ps).length := by rw [edges_len]; exact h
  rw [List.take_succ_eq_append_getElem hl]
  congr 2
  simp [edges]
theorem row_take {ps : List Int} {v j : Nat} (h : j < ps.length + 1) : (row ps v).take j ++ [way ps v j] = (row ps v).take (j + 1) := by
  have hl : j < (row ps v).length := by rw [row_len]; exact h
  rw [List.take_succ_eq_append_getElem hl]
  congr 2
  simp [row]
theorem rows_take {ps : List Int} {t : Nat} (h : t < ps.length + 1) : (rows ps).take t ++ [row ps t] = (rows ps).take (t + 1) := by
  have hl : t < (rows ps).length := by rw [rows_len]; exact h
  rw [List.take_succ_eq_append_getElem hl]
  congr 2
  simp [rows]
theorem two_nodes {ps : List Int} (ho : ok ps = true) {v w : Nat} (hv : v ≤ ps.length) (hw : w ≤ ps.length) (hne : v ≠ w) : 2 ≤ (path ps v w).length ∧ (path ps v w).length ≤ 6 := by
  have h := of_ask2 ends_all ho hv hw
  unfold q_ends at h
  simp only [Bool.and_eq_true, Bool.or_eq_true, decide_eq_true_eq] at h
  exact ⟨h.2.resolve_left hne, h.1.1.1.1.1.1⟩
end Tree
set_option maxHeartbeats 16000000 in
set_option maxRecDepth 100000 in
theorem rlay_any {w : World} {p : PV} {es : List (Int × Int)} {ws : List Int} {ns : List Nat} (h : Pl w p es ws ns) {a : Option Addr} {m c : Nat} {ps : List Int} (hz : Zr w a m ps) (hm : m ≤ 17592186044416) (hwn : p.wa = none → p.wn = 0 ∧ p.wc = 0) :
    Calls Tryz.prog 33 #[p.val, .slice a m c] w fun e w' => LayEnd .i64 w.heap.size p ps ws e w' ∧ Below w.heap.size w w' := by
  have HZ : Hid (Zr w a m ps) := hz
  have hln := hz.1
  have HWs : Hid (Zr w p.wa p.wn ws) := h.hw
  have hwb := h.wb
  have HWN : Hid (p.wa = none → p.wn = 0 ∧ p.wc = 0) := hwn
  have HST := lay_start w p
  have HSx : Hid _ := HST
  clear hz h HST hwn
  obtain ⟨N0, lanes, room, queue, rounds, every, bag, start, ea0, en0, ec0, wa0, wn0, wc0, na0, nn0, nc0⟩ := p
  simp only [PV.val, PV.obj, pz] at HWs hwb HWN HSx ⊢
  cases hl : Tree.layOk ps with
  | false =>
    have HLo : Hid (Tree.layOk ps = false) := hl
    cases hok : Tree.ok ps with
    | false =>
      go_enter Tryz.func33, Tryz.ntmps33
      go_wp2_with fail
      obtain ⟨hS1, hS2, hS3, hS4⟩ := HSx.out _ rfl
      have HS1 : Hid _ := hS1
      have HR0 : Hid _ := hS2
      have HW1 : Hid _ := hS3
      have HSz : Hid _ := hS4
      clear hS1 hS2 hS3 hS4 HSx
      generalize World.alloc _ _ = W1 at HS1 HR0 HW1 HSz ⊢
      obtain ⟨B, hB⟩ : ∃ B, w.heap.size = B := ⟨_, rfl⟩
      rw [hB] at HS1 HR0 HW1 HSz ⊢
      obtain ⟨R, hR⟩ : ∃ R, B + 1 = R := ⟨_, rfl⟩
      rw [hR] at HR0 HSz ⊢
      have HBR : Hid (w.heap.size = B ∧ B + 1 = R) := ⟨hB, hR⟩
      clear hB hR
      refine (rright_any (HZ.out.below (by rw [HBR.out.1]; exact HW1.out)) hm).mono ?_
      rintro e w' ⟨rfl, hq⟩
      obtain rfl := hq.symm
      rw [hok]
      clear hq
      have HR : Hid (Bx W1 R ⟨0, 0, 0, 0, 0, 0, 0, 0, none, 0, 0, none, 0, 0, none, 0, 0⟩) := HR0.out
      obtain ⟨y0, y1, y2, y3, y4, y5, y6, y7, y8, y9, y10⟩ := HR.out.x
      have f0 := HR.out.f
      simp only at y0 y1 y2 y3 y4 y5 y6 y7 y8 y9 y10
      have x0 := trivial
      go_wp2_with fail
      have HF : Hid (Bxd (lay11 W1 R ⟨0, 0, 0, 0, 0, 0, 0, 0, none, 0, 0, none, 0, 0, none, 0, 0⟩) R ⟨0, 0, 0, 0, 0, 0, 0, 0, none, 0, 0, none, 0, 0, none, 0, 0⟩ ∧ Sans (fun j => j = R) W1 (lay11 W1 R ⟨0, 0, 0, 0, 0, 0, 0, 0, none, 0, 0, none, 0, 0, none, 0, 0⟩)) := ⟨lay11_bxd HR.out _, lay11_sans _ _ _⟩
      unfold lay11 at HF
      simp only at HF
      clear x0 y0 y1 y2 y3 y4 y5 y6 y7 y8 y9 y10 f0
      generalize World.setCell _ ⟨R, 10, none⟩ _ = Wf at HF ⊢
      obtain ⟨x0, x1, x2, x3, x4, x5, x6, x7, x8, x9, x10⟩ := HF.out.1
      simp only at x0 x1 x2 x3 x4 x5 x6 x7 x8 x9 x10
      refine bodyPost_ret (v := .tuple #[PV.val ⟨0, 0, 0, 0, 0, 0, 0, 0, none, 0, 0, none, 0, 0, none, 0, 0⟩, .int .i64 120]) (by simp [results, Tryz.f33, go_sem, x0, x1, x2, x3, x4, x5, x6, x7, x8, x9, x10, PV.val]) rfl ?_
      exact ⟨LayEnd.bad HLo.out, by rw [HBR.out.1]; exact HW1.out.trans (HF.out.2.below (B := B) (by have := HSz.out; have := HBR.out; omega) (fun j e => by have := HBR.out; omega))⟩
    | true =>
      have hm0 : m = 0 := by
        unfold Tree.layOk at hl
        rw [hok] at hl
        have h0 : ps = [] := by simpa using hl
        rw [← hln, h0]
        rfl
      subst hm0
      go_enter Tryz.func33, Tryz.ntmps33
      go_wp2_with fail
      obtain ⟨hS1, hS2, hS3, hS4⟩ := HSx.out _ rfl
      have HS1 : Hid _ := hS1
      have HR0 : Hid _ := hS2
      have HW1 : Hid _ := hS3
      have HSz : Hid _ := hS4
      clear hS1 hS2 hS3 hS4 HSx
      generalize World.alloc _ _ = W1 at HS1 HR0 HW1 HSz ⊢
      obtain ⟨B, hB⟩ : ∃ B, w.heap.size = B := ⟨_, rfl⟩
      rw [hB] at HS1 HR0 HW1 HSz ⊢
      obtain ⟨R, hR⟩ : ∃ R, B + 1 = R := ⟨_, rfl⟩
      rw [hR] at HR0 HSz ⊢
      have HBR : Hid (w.heap.size = B ∧ B + 1 = R) := ⟨hB, hR⟩
      clear hB hR
      refine (rright_any (HZ.out.below (by rw [HBR.out.1]; exact HW1.out)) hm).mono ?_
      rintro e w' ⟨rfl, hq⟩
      obtain rfl := hq.symm
      rw [hok]
      clear hq
      have HR : Hid (Bx W1 R ⟨0, 0, 0, 0, 0, 0, 0, 0, none, 0, 0, none, 0, 0, none, 0, 0⟩) := HR0.out
      obtain ⟨y0, y1, y2, y3, y4, y5, y6, y7, y8, y9, y10⟩ := HR.out.x
      have f0 := HR.out.f
      simp only at y0 y1 y2 y3 y4 y5 y6 y7 y8 y9 y10
      have x0 := trivial
      go_wp2_with fail
      have HF : Hid (Bxd (lay11 W1 R ⟨0, 0, 0, 0, 0, 0, 0, 0, none, 0, 0, none, 0, 0, none, 0, 0⟩) R ⟨0, 0, 0, 0, 0, 0, 0, 0, none, 0, 0, none, 0, 0, none, 0, 0⟩ ∧ Sans (fun j => j = R) W1 (lay11 W1 R ⟨0, 0, 0, 0, 0, 0, 0, 0, none, 0, 0, none, 0, 0, none, 0, 0⟩)) := ⟨lay11_bxd HR.out _, lay11_sans _ _ _⟩
      unfold lay11 at HF
      simp only at HF
      clear x0 y0 y1 y2 y3 y4 y5 y6 y7 y8 y9 y10 f0
      generalize World.setCell _ ⟨R, 10, none⟩ _ = Wf at HF ⊢
      obtain ⟨x0, x1, x2, x3, x4, x5, x6, x7, x8, x9, x10⟩ := HF.out.1
      simp only at x0 x1 x2 x3 x4 x5 x6 x7 x8 x9 x10
      refine bodyPost_ret (v := .tuple #[PV.val ⟨0, 0, 0, 0, 0, 0, 0, 0, none, 0, 0, none, 0, 0, none, 0, 0⟩, .int .i64 120]) (by simp [results, Tryz.f33, go_sem, x0, x1, x2, x3, x4, x5, x6, x7, x8, x9, x10, PV.val]) rfl ?_
      exact ⟨LayEnd.bad HLo.out, by rw [HBR.out.1]; exact HW1.out.trans (HF.out.2.below (B := B) (by have := HSz.out; have := HBR.out; omega) (fun j e => by have := HBR.out; omega))⟩
  | true =>
    have HLo : Hid (Tree.layOk ps = true) := hl
    have hok : Tree.ok ps = true := by
      unfold Tree.layOk at hl
      rw [Bool.and_eq_true] at hl
      exact hl.1
    have hm1 : m ≠ 0 := by
      unfold Tree.layOk at hl
      rw [Bool.and_eq_true, decide_eq_true_eq] at hl
      omega
    have hm1' : ((m : Int) == 0) = false := by simp; omega
    go_enter Tryz.func33, Tryz.ntmps33
    go_wp2_with fail
    obtain ⟨hS1, hS2, hS3, hS4⟩ := HSx.out _ rfl
    have HS1 : Hid _ := hS1
    have HR0 : Hid _ := hS2
    have HW1 : Hid _ := hS3
    have HSz : Hid _ := hS4
    clear hS1 hS2 hS3 hS4 HSx
    generalize World.alloc _ _ = W1 at HS1 HR0 HW1 HSz ⊢
    obtain ⟨B, hB⟩ : ∃ B, w.heap.size = B := ⟨_, rfl⟩
    rw [hB] at HS1 HR0 HW1 HSz ⊢
    obtain ⟨R, hR⟩ : ∃ R, B + 1 = R := ⟨_, rfl⟩
    rw [hR] at HR0 HSz ⊢
    have HBR : Hid (w.heap.size = B ∧ B + 1 = R) := ⟨hB, hR⟩
    clear hB hR
    refine (rright_any (HZ.out.below (by rw [HBR.out.1]; exact HW1.out)) hm).mono ?_
    rintro e w' ⟨rfl, hq⟩
    obtain rfl := hq.symm
    rw [hok]
    clear hq
    have hm5 : m ≤ 5 := by have := (Tree.ok_parts hok).1; omega
    have HLow : Hid (∀ k, k < ps.length → 0 ≤ ps.getD k 0 ∧ ps.getD k 0 ≤ (k : Int)) := (Tree.ok_parts hok).2
    have hb0 := HS1.out.x.c0
    have hb1 := HS1.out.x.c1
    have hbf := HS1.out.f
    simp only at hb0 hb1
    go_wp2_with fail
    have HX2 : Hid (Bx ((W1.setCell ⟨B, 0, none⟩ (.int .i64 ((m : Int) + 1))).setCell ⟨B, 1, none⟩ (.slice none 0 0)) B ⟨((m : Int) + 1), lanes, room, queue, rounds, every, bag, start, none, 0, 0, wa0, wn0, wc0, na0, nn0, nc0⟩ ∧ Sans (fun j => j = B) W1 ((W1.setCell ⟨B, 0, none⟩ (.int .i64 ((m : Int) + 1))).setCell ⟨B, 1, none⟩ (.slice none 0 0))) := ⟨(HS1.out.set0 ((m : Int) + 1)).setE none 0 0, ((Sans.refl (fun j => j = B) W1).stored 0 _).stored 1 _⟩
    clear hb0 hb1 hbf
    generalize World.setCell _ ⟨B, 1, none⟩ _ = W2 at HX2 ⊢
    have HR2 : Hid (Bx W2 R ⟨0, 0, 0, 0, 0, 0, 0, 0, none, 0, 0, none, 0, 0, none, 0, 0⟩) := HR0.out.sans HX2.out.2 (by have := HBR.out; omega)
    have hW2 : R < W2.heap.size := by have := HX2.out.2.size; have := HSz.out; omega
    have HB2 : Hid (Below B w W2) := HW1.out.trans (HX2.out.2.below (B := B) (by have := HSz.out; have := HBR.out; omega) (fun j e => by omega))
    go_loopw [7] (fun i wr => ∃ (k : Nat) (ea : Option Addr) (ec : Nat), k ≤ m ∧ i = .int .i64 (k + 1 : Nat) ∧ Bx wr B ⟨((m : Int) + 1), lanes, room, queue, rounds, every, bag, start, ea, k, ec, wa0, wn0, wc0, na0, nn0, nc0⟩ ∧ wr.ownsRow W2.heap.size 43 2 (.slice ea k ec) ((Tree.edges ps).take k).length (pcells ((Tree.edges ps).take k)) ∧ Sans (fun j => j = B) W2 wr) (fun i _ => m + 1 - (intOf i).toNat)
    case atStart => exact ⟨0, none, 0, Nat.zero_le _, rfl, HX2.out.1, World.ownsRow_nil _ _ _ _, Sans.refl _ _⟩
    case round =>
      obtain ⟨k, ea, ec, hk, rfl, hX, hO, hS⟩ := hrel
      have HX : Hid (Bx wr B ⟨((m : Int) + 1), lanes, room, queue, rounds, every, bag, start, ea, k, ec, wa0, wn0, wc0, na0, nn0, nc0⟩) := hX
      have HOe : Hid (wr.ownsRow W2.heap.size 43 2 (.slice ea k ec) ((Tree.edges ps).take k).length (pcells ((Tree.edges ps).take k))) := hO
      have HS : Hid (Sans (fun j => j = B) W2 wr) := hS
      have hsz := hS.size
      have hc1 := hX.x.c1
      simp only at hc1
      have HBw : Hid (Below B w wr) := HB2.out.trans (hS.below (B := B) (by have := HBR.out; omega) (fun j e => by omega))
      clear hX hO hS
      by_cases hkm : k < m
      · have hlk : ((Tree.edges ps).take k).length = k := by rw [List.length_take, Tree.edges_len]; omega
        have hlk1 : ((Tree.edges ps).take (k + 1)).length = k + 1 := by rw [List.length_take, Tree.edges_len]; omega
        obtain ⟨b, off, ha, hc⟩ := (HZ.out.below (by rw [HBR.out.1]; exact HBw.out)).at hkm
        subst ha
        obtain ⟨y, hy⟩ : ∃ y, ps.getD k 0 = y := ⟨_, rfl⟩
        rw [hy] at hc
        have HA : Hid ((Tree.edges ps).take k ++ [(y, (k : Int) + 1)] = (Tree.edges ps).take (k + 1)) := by
          show _ = _
          rw [← Tree.edges_take (show k < ps.length by omega), hy]
          rfl
        have HL0 : Hid (((Tree.edges ps).take k).length = k) := hlk
        have HL1 : Hid (((Tree.edges ps).take (k + 1)).length = k + 1) := hlk1
        have HD : Hid (Below wr.heap.size wr (wr.drew.alloc (.cells #[.int .i64 y, .int .i64 ((k : Int) + 1)] 43))) := (Below.refl _ _).drew.alloc (Nat.le_refl _) _
        have hB3 : B < wr.heap.size := cell_lt hc1
        have HBW : Hid (B < W2.heap.size) := by show _ < _; have := HBR.out; omega
        have wk : IntKind.i64.wrap (k : Int) = k := by simp only [IntKind.wrap_i64]; omega
        clear hy hlk hlk1
        go_wp2_with fail
        go_region_law (refine step_append_p rfl (.tmp 34) (.tmp 42) 26 43 rfl Tryz.underlying26 infoE W2.heap.size (.slice ea k ec) ((Tree.edges ps).take k) (by rfl) (owns_below HOe.out HD.out) (Nat.le_trans hsz HD.out.size) ⟨wr.heap.size, 0, none⟩ 1 1 [(y, (k : Int) + 1)] (by rfl) (pr_one wr.drew y ((k : Int) + 1) _) (by rw [HL0.out]; omega) _ HA.out ?_; intro v' w2 hown hB2; have hX2 := (HX.out.below HD.out hB3).below hB2 HBW.out; have q1 := hX2.x.c1; have f1 := hX2.f 1; simp only at q1; obtain ⟨a', cap', hv', _⟩ := pr_of_owns hown; rw [HL1.out] at hv'; subst hv'; have HX8 := hX2; clear hX2)
        all_goals
          go_wp2_with fail
          go_roundw
          case rel =>
            have R1 := HX8.setE a' (k + 1) cap'
            have R2 := owns_sans hown (Sans.of_set (F := fun i => i = B) w2 ⟨B, 1, none⟩ (.slice a' (k + 1) cap') rfl) (fun i hi e => by have := HBW.out; omega)
            have R3 := ((HS.out.then (Sans.of_below HD.out)).grew (Nat.le_refl _) (Nat.le_trans hsz HD.out.size) hB2).stored 1 (.slice a' (k + 1) cap')
            first | exact ⟨k + 1, a', cap', by omega, by go_num, R1, R2, R3⟩ | ((repeat apply Exists.intro); exact ⟨⟨k + 1, a', cap', by omega, by go_num, R1, R2, R3⟩, rfl⟩)
          case measure => simp [intOf]; omega
      · obtain rfl : m = k := by omega
        obtain ⟨W3, hW3⟩ : ∃ W3, W3 = wr := ⟨_, rfl⟩
        subst hW3
        have hET : (Tree.edges ps).take m = Tree.edges ps := List.take_of_length_le (by rw [Tree.edges_len]; omega)
        rw [hET] at HOe
        have HR3 : Hid (Bx W3 R ⟨0, 0, 0, 0, 0, 0, 0, 0, none, 0, 0, none, 0, 0, none, 0, 0⟩) := HR2.out.sans HS.out (by have := HBR.out; omega)
        have hB3 : B < W3.heap.size := cell_lt hc1
        have hc8 := HX.out.x.c8
        simp only at hc8
        clear hc1 hET hkm hk
        go_wp2_with (at_builtin; refine wpList_append_z rfl (.tmp 45) (.tmp 47) rfl W3.heap.size (.slice none 0 0) [] rfl (World.ownsRow_nil _ _ _ _) (Nat.le_refl _) wa0 wn0 wc0 ws rfl (HWs.out.below (by rw [HBR.out.1]; exact HBw.out)) HWN.out (by simp; omega) ws rfl ?_; intro v4 w4 hown4 hB4; have hX4 := HX.out.below hB4 hB3; have q8 := hX4.x.c8; have q10 := hX4.x.c10; have f4 := hX4.f; simp only at q8 q10; obtain ⟨wa, wc, hv4, hz4, hl4, hm4, hn4, hg4⟩ := zr_of_owns hown4; rw [HWs.out.1] at hv4 hl4; subst hv4; have HX4 : Hid _ := hX4; have HO4 : Hid (w4.ownsRow W3.heap.size 3 1 (.slice wa wn0 wc) ws.length (zcells ws)) := hown4; have HB4 : Hid (Below W3.heap.size W3 w4) := hB4; clear hX4 hown4 hB4 hz4 hg4)
        have HX5 : Hid (Bx ((w4.setCell ⟨B, 8, none⟩ (.slice wa wn0 wc)).setCell ⟨B, 10, none⟩ (.slice none 0 0)) B ⟨((m : Int) + 1), lanes, room, queue, rounds, every, bag, start, ea, m, ec, wa, wn0, wc, none, 0, 0⟩ ∧ Sans (fun j => j = B) W3 ((w4.setCell ⟨B, 8, none⟩ (.slice wa wn0 wc)).setCell ⟨B, 10, none⟩ (.slice none 0 0)) ∧ ((w4.setCell ⟨B, 8, none⟩ (.slice wa wn0 wc)).setCell ⟨B, 10, none⟩ (.slice none 0 0)).ownsRow W3.heap.size 3 1 (.slice wa wn0 wc) ws.length (zcells ws)) :=
          ⟨(HX4.out.setW wa wn0 wc).setN none 0 0, (((Sans.refl (fun j => j = B) W3).grew (Nat.le_refl _) (Nat.le_refl _) HB4.out).stored 8 _).stored 10 _, owns_sans (owns_sans HO4.out (Sans.of_set (F := fun i => i = B) _ ⟨B, 8, none⟩ _ rfl) (fun i hi e => by omega)) (Sans.of_set (F := fun i => i = B) _ ⟨B, 10, none⟩ _ rfl) (fun i hi e => by omega)⟩
        clear q8 q10 f4 hc8 HX4 HO4 HB4
        generalize World.setCell _ ⟨B, 10, none⟩ _ = W4 at HX5 ⊢
        have hB5 : B < W4.heap.size := cell_lt HX5.out.1.x.c0
        have HR4 : Hid (Bx W4 R ⟨0, 0, 0, 0, 0, 0, 0, 0, none, 0, 0, none, 0, 0, none, 0, 0⟩) := HR3.out.sans HX5.out.2.1 (by have := HBR.out; omega)
        have hR4 : R < W4.heap.size := cell_lt HR4.out.x.c0
        have HB5 : Hid (Below B w W4) := HBw.out.trans (HX5.out.2.1.below (B := B) (by omega) (fun j e => by omega))
        go_loopw [9, 10, 11, 12] (fun y _ _ _ wx => ∃ (t : Nat) (na : Option Addr) (nc : Nat) (vs : List Value), t ≤ m + 1 ∧ y = .int .i64 t ∧ Bx wx B ⟨((m : Int) + 1), lanes, room, queue, rounds, every, bag, start, ea, m, ec, wa, wn0, wc, na, t, nc⟩ ∧ Rb wx W4.heap.size (.slice na t nc) t ((Tree.rows ps).take t) vs ∧ Sans (fun j => j = B) W4 wx) (fun y _ _ _ _ => m + 1 - (intOf y).toNat)
        case atStart => exact ⟨0, none, 0, [], Nat.zero_le _, rfl, HX5.out.1, Rb.nil _ _, Sans.refl _ _⟩
        case round =>
          obtain ⟨t, na, nc, vs, ht, rfl, hX6, hR6, hS6⟩ := hrel
          have HX6 : Hid (Bx wr B ⟨((m : Int) + 1), lanes, room, queue, rounds, every, bag, start, ea, m, ec, wa, wn0, wc, na, t, nc⟩) := hX6
          have HR6 : Hid (Rb wr W4.heap.size (.slice na t nc) t ((Tree.rows ps).take t) vs) := hR6
          have HS6 : Hid (Sans (fun j => j = B) W4 wr) := hS6
          have hsz6 := hS6.size
          have HB6 : Hid (Below B w wr) := HB5.out.trans (hS6.below (B := B) (by omega) (fun j e => by omega))
          clear hX6 hR6 hS6
          by_cases htm : t < m + 1
          · obtain ⟨Wi, hWi⟩ : ∃ Wi, Wi = wr := ⟨_, rfl⟩
            subst hWi
            have hBi : B < Wi.heap.size := by omega
            have htm' : (t : Int) < (m : Int) + 1 := by omega
            go_wp2_with fail
            go_loopw [10, 11, 12] (fun rw_ x _ wx => ∃ j : Nat, j ≤ m + 1 ∧ x = .int .i64 j ∧ wx.ownsRow Wi.heap.size 3 1 rw_ ((Tree.row ps t).take j).length (zcells ((Tree.row ps t).take j)) ∧ Below Wi.heap.size Wi wx) (fun _ x _ _ => m + 1 - (intOf x).toNat)
            case atStart => exact ⟨0, Nat.zero_le _, rfl, World.ownsRow_nil _ _ _ _, Below.refl _ _⟩
            case round =>
              obtain ⟨j, hj, rfl, hO7, hB7⟩ := hrel
              have HO7 : Hid (wr.ownsRow Wi.heap.size 3 1 u10 ((Tree.row ps t).take j).length (zcells ((Tree.row ps t).take j))) := hO7
              have HB7 : Hid (Below Wi.heap.size Wi wr) := hB7
              have hsz7 := hB7.size
              have hl7 : ((Tree.row ps t).take j).length ≤ 10 := by rw [List.length_take, Tree.row_len]; omega
              clear hO7 hB7
              by_cases hjm : j < m + 1
              · have HRt := Tree.row_take (ps := ps) (v := t) (j := j) (by omega)
                have hjm' : (j : Int) < (m : Int) + 1 := by omega
                by_cases htj : t = j
                · subst htj
                  have HA : Hid ((Tree.row ps t).take t ++ [(t : Int)] = (Tree.row ps t).take (t + 1)) := by
                    show _ = _
                    rw [← HRt]
                    unfold Tree.way
                    rw [if_pos rfl]
                  clear HRt
                  go_wp2_with (at_builtin; refine wpList_append_z rfl (.tmp 72) (.tmp 74) rfl Wi.heap.size u10 ((Tree.row ps t).take t) rfl (owns_below HO7.out (fresh _ _)) (by simp; omega) (some ⟨wr.heap.size, 0, none⟩) 1 1 [(t : Int)] rfl (zr_one wr _) (fun e => by cases e) (by omega) _ HA.out ?_; intro v8 w8 hown8 hB8)
                  go_roundw
                  case rel =>
                    have R1 : Below Wi.heap.size Wi w8 := (HB7.out.alloc hsz7 _).trans hB8
                    first | exact ⟨t + 1, by omega, by go_num, hown8, R1⟩ | ((repeat apply Exists.intro); exact ⟨⟨t + 1, by omega, by go_num, hown8, R1⟩, rfl⟩)
                  case measure => simp [intOf]; omega
                · have htj' : ((t : Int) != j) = true := by simp; omega
                  have HPt : Hid (Tree.pathOf ps (t : Int) (j : Int) = Tree.path ps t j) := Tree.pathOf_ok hok (by omega) (by omega)
                  obtain ⟨hp2, hp6⟩ := Tree.two_nodes hok (v := t) (w := j) (by omega) (by omega) htj
                  have HWy : Hid (Tree.way ps t j = (Tree.path ps t j).getD 1 0) := by
                    show _ = _
                    unfold Tree.way
                    rw [if_neg htj]
                  obtain ⟨L, hL⟩ : ∃ L, Tree.path ps t j = L := ⟨_, rfl⟩
                  rw [hL] at HPt hp2 hp6 HWy
                  clear hL
                  go_wp2_with fail
                  refine (rpath_any (HZ.out.below (by rw [HBR.out.1]; exact HB6.out.trans (HB7.out.mono (by omega)))) hm (t : Int) (j : Int)).mono ?_
                  rintro e w5 ⟨x5, rfl, hown5, hB5'⟩
                  rw [HPt.out] at hown5
                  obtain ⟨a5, c5, rfl, hz5, hl5, hm5', hn5, hg5⟩ := zr_of_owns hown5
                  obtain ⟨b5, o5, ha5, hc5⟩ := hz5.at (k := 1) (by omega)
                  subst ha5
                  obtain ⟨y5, hy5⟩ : ∃ y, L.getD 1 0 = y := ⟨_, rfl⟩
                  rw [hy5] at hc5
                  have HA : Hid ((Tree.row ps t).take j ++ [y5] = (Tree.row ps t).take (j + 1)) := by
                    show _ = _
                    rw [← HRt, HWy.out, hy5]
                  have HB8 : Hid (Below Wi.heap.size Wi w5) := later' HB7.out hB5' hsz7
                  have HO8 : Hid (w5.ownsRow Wi.heap.size 3 1 u10 ((Tree.row ps t).take j).length (zcells ((Tree.row ps t).take j))) := owns_below HO7.out hB5'
                  have hsz8 := HB8.out.size
                  have hL1 : (1 : Int) < L.length := by omega
                  clear hown5 hz5 hg5 hB5' hy5 HRt HWy
                  go_wp2_with (at_builtin; refine wpList_append_z rfl (.tmp 72) (.tmp 74) rfl Wi.heap.size u10 ((Tree.row ps t).take j) rfl (owns_below HO8.out (fresh _ _)) (by simp; omega) (some ⟨w5.heap.size, 0, none⟩) 1 1 [y5] rfl (zr_one w5 _) (fun e => by cases e) (by omega) _ HA.out ?_; intro v8 w8 hown8 hB9)
                  go_roundw
                  case rel =>
                    have R1 : Below Wi.heap.size Wi w8 := (HB8.out.alloc hsz8 _).trans hB9
                    first | exact ⟨j + 1, by omega, by go_num, hown8, R1⟩ | ((repeat apply Exists.intro); exact ⟨⟨j + 1, by omega, by go_num, hown8, R1⟩, rfl⟩)
                  case measure => simp [intOf]; omega
              · obtain rfl : j = m + 1 := by omega
                have hRT : (Tree.row ps t).take (m + 1) = Tree.row ps t := List.take_of_length_le (by rw [Tree.row_len]; omega)
                have hRl : (Tree.row ps t).length = m + 1 := by rw [Tree.row_len]; omega
                rw [hRT] at HO7
                have HX7 : Hid (Bx wr B ⟨((m : Int) + 1), lanes, room, queue, rounds, every, bag, start, ea, m, ec, wa, wn0, wc, na, t, nc⟩) := HX6.out.below HB7.out hBi
                have q10 := HX7.out.x.c10
                simp only at q10
                have HR7 : Hid (Rb wr W4.heap.size (.slice na t nc) t ((Tree.rows ps).take t) vs) := HR6.out.sans (F := fun _ => False) (Sans.of_below HB7.out) (fun _ _ e => e)
                obtain ⟨a18, cap18, hv18, hz18, hc18, hm18, hn18, hg18⟩ := zr_of_owns HO7.out
                rw [hRl] at hv18
                subst hv18
                have HRow : Hid (RowA wr W4.heap.size (Value.slice na t nc).ownBlock (.slice a18 (m + 1) cap18) (Tree.row ps t)) := by
                  refine ⟨a18, cap18, by rw [hRl], hz18, hc18, hm18, hn18, fun ad e => ?_⟩
                  rcases hg18 with ⟨h1, _⟩ | ⟨g, h1, h2, h3⟩
                  · rw [h1] at e; cases e
                  · rw [h1] at e
                    cases e
                    refine ⟨Nat.le_trans hsz6 h2, h3, fun e2 => ?_⟩
                    have := (HR6.out.own.lt _ e2).2
                    simp only at this
                    omega
                have HRs : Hid ((Tree.rows ps).take t ++ [Tree.row ps t] = (Tree.rows ps).take (t + 1)) := Tree.rows_take (by omega)
                have hsz8 : W4.heap.size ≤ wr.heap.size := by omega
                have HT6 : Hid (t ≤ 6) := by show _ ≤ _; omega
                clear hz18 hg18 hc18 hm18 hn18 hRT hRl hl7
                have hjm' : ¬ ((m + 1 : Nat) : Int) < (m : Int) + 1 := by omega
                go_wp2_with (at_builtin; refine wpList_append_v rfl (.tmp 77) (.tmp 79) 29 27 rfl (.slice none 0 0) 1 24 Tryz.underlying29 infoR rfl (by decide) W4.heap.size (.slice na t nc) t vs rfl (owns_below HR7.out.own (fresh _ _)) (by simp; omega) (some ⟨wr.heap.size, 0, none⟩) 1 1 [.slice a18 (m + 1) cap18] rfl rfl (fun e => by cases e) (.inr ⟨_, rfl, row_cell wr _⟩) (fun u hu => by rw [List.mem_singleton] at hu; rw [hu]; rfl) (by have := HT6.out; unfold maxLen; omega) (by have := HT6.out; omega) ?_; intro v' w2 hown hB2 hg hat; have hX8 := (HX7.out.below (fresh wr _) (by omega)).below hB2 hB5; have r10 := hX8.x.c10; have f10 := hX8.f 10; simp only at r10; have hRb := HR7.out.push HRow.out hown hg hat; obtain ⟨a', cap', hv', _⟩ := mr_of_rb hRb; subst hv'; rw [HRs.out] at hRb; have HX8 : Hid _ := hX8; have HRb : Hid _ := hRb; have HB9 : Hid (Below W4.heap.size (wr.alloc (.cells #[.slice a18 (m + 1) cap18] 27)) w2) := hB2; clear hX8 hRb hown hB2 hg hat)
                go_roundw
                case rel =>
                  have R1 := HX8.out.setN a' (t + 1) cap'
                  have R2 := Rb.sans HRb.out (Sans.of_set (F := fun i => i = B) w2 ⟨B, 10, none⟩ (.slice a' (t + 1) cap') rfl) (fun i hi e => by omega)
                  have R3 := (((HS6.out.grew (Nat.le_refl _) hsz6 (HB7.out.mono hsz6)).then (Sans.alloc wr _)).grew (Nat.le_refl _) (by simp; omega) HB9.out).stored 10 (.slice a' (t + 1) cap')
                  first | exact ⟨t + 1, a', cap', _, by omega, by go_num, R1, R2, R3⟩ | ((repeat apply Exists.intro); exact ⟨⟨t + 1, a', cap', _, by omega, by go_num, R1, R2, R3⟩, rfl⟩)
                case measure => simp [intOf]; omega
          · obtain rfl : t = m + 1 := by omega
            have hRA : (Tree.rows ps).take (m + 1) = Tree.rows ps := List.take_of_length_le (by rw [Tree.rows_len]; omega)
            rw [hRA] at HR6
            have HR : Hid (Bx wr R ⟨0, 0, 0, 0, 0, 0, 0, 0, none, 0, 0, none, 0, 0, none, 0, 0⟩) := HR4.out.sans HS6.out (by have := HBR.out; omega)
            obtain ⟨x0, x1, x2, x3, x4, x5, x6, x7, x8, x9, x10⟩ := HX6.out.x
            obtain ⟨y0, y1, y2, y3, y4, y5, y6, y7, y8, y9, y10⟩ := HR.out.x
            have f0 := HR.out.f
            simp only at x0 x1 x2 x3 x4 x5 x6 x7 x8 x9 x10 y0 y1 y2 y3 y4 y5 y6 y7 y8 y9 y10
            have hno : ¬ ((m + 1 : Nat) : Int) < (m : Int) + 1 := by omega
            clear hRA
            go_wp2_with fail
            have HF : Hid (Bxd (lay11 wr R ⟨((m : Int) + 1), lanes, room, queue, rounds, every, bag, start, ea, m, ec, wa, wn0, wc, na, m + 1, nc⟩) R ⟨((m : Int) + 1), lanes, room, queue, rounds, every, bag, start, ea, m, ec, wa, wn0, wc, na, m + 1, nc⟩ ∧ Sans (fun j => j = R) wr (lay11 wr R ⟨((m : Int) + 1), lanes, room, queue, rounds, every, bag, start, ea, m, ec, wa, wn0, wc, na, m + 1, nc⟩)) := ⟨lay11_bxd HR.out _, lay11_sans _ _ _⟩
            unfold lay11 at HF
            simp only at HF
            clear x0 x1 x2 x3 x4 x5 x6 x7 x8 x9 x10 y0 y1 y2 y3 y4 y5 y6 y7 y8 y9 y10 f0
            generalize World.setCell _ ⟨R, 10, none⟩ _ = Wf at HF ⊢
            obtain ⟨x0, x1, x2, x3, x4, x5, x6, x7, x8, x9, x10⟩ := HF.out.1
            simp only at x0 x1 x2 x3 x4 x5 x6 x7 x8 x9 x10
            refine bodyPost_ret (v := .tuple #[PV.val ⟨((m : Int) + 1), lanes, room, queue, rounds, every, bag, start, ea, m, ec, wa, wn0, wc, na, m + 1, nc⟩, .int .i64 0]) (by simp [results, Tryz.f33, go_sem, x0, x1, x2, x3, x4, x5, x6, x7, x8, x9, x10, PV.val]) rfl ?_
            have HSf : Hid (Sans (fun j => j = B ∨ j = R) W3 Wf) := ((HX5.out.2.1.mono (fun j e => .inl e)).then (HS6.out.mono (fun j e => .inl e))).then (HF.out.2.mono (fun j e => .inr e))
            have hBR := HBR.out
            refine ⟨LayEnd.good HLo.out (q := ⟨((m : Int) + 1), lanes, room, queue, rounds, every, bag, start, ea, m, ec, wa, wn0, wc, na, m + 1, nc⟩) ?_, ?_⟩
            · have h1 := owns_sans HOe.out HSf.out (fun j hj e => by omega)
              have h2 := owns_sans (owns_sans HX5.out.2.2 HS6.out (fun j hj e => by omega)) HF.out.2 (fun j hj e => by omega)
              have h3 := HR6.out.sans HF.out.2 (fun j hj e => by omega)
              rw [Tree.edges_len, hln] at h1
              have hrl : (Tree.rows ps).length = m + 1 := by rw [Tree.rows_len]; omega
              exact ⟨by simp only; omega, rfl, rfl, rfl, rfl, rfl, rfl, rfl, by rw [Tree.edges_len, hln]; exact owns_mono h1 (by omega), owns_mono h2 (by omega), _, by rw [hrl]; exact h3.mono (by omega)⟩
            · rw [hBR.1]
              exact HBw.out.trans ((HX5.out.2.1.below (B := B) (by omega) (fun j e => by omega)).trans ((HS6.out.below (B := B) (by omega) (fun j e => by omega)).trans (HF.out.2.below (B := B) (by omega) (fun j e => by omega))))
end Go.Proofs.YtniicgbkeifnjaaGreatDoor
