/-
  Package tree as it landed: Lay; and that the package comes to what TreeSpec says. Conditions: none.
-/
import Derived.Test.YtipdcpekepiphaaTreeLandD
namespace Go.Proofs.Ytipdcpekepiphaa
open Go.ChangeShapes Go.WideShapes Go.ChangeAt Go.RowKit Go.Shelf
set_option linter.unusedVariables false

set_option maxHeartbeats 1000000 in
set_option maxRecDepth 100000 in
theorem zclone_some {w : World} {ad : Addr} {n c : Nat} {l : List Int} (h : Zr w (some ad) n l) (hn : n ≤ 17592186044416) :
    Calls Try.prog 27 #[.slice (some ad) n c] w fun e w' => ∃ v, e = .returned v ∧ w'.ownsRow w.heap.size 3 1 v l.length (zcells l) ∧ Below w.heap.size w w' := by
  have q29 : ∀ (w : World) (a : Option Addr) (n c n' c' : Nat), (binOp .eql 23 (.slice a n c) (.slice none n' c')).run Try.prog w = .ok (.bool a.isNone) w := fun w a n c n' c' => Lib.run_eql_slice_nil w _ _ a n c n' c' Try.underlying23
  have HZ : Hid (Zr w (some ad) n l) := h
  clear h
  have HO : Hid ((w.alloc (.cells #[] 3)).ownsRow w.heap.size 3 1 (.slice (some ⟨w.heap.size, 0, none⟩) 0 0) 0 []) := World.ownsRow_made (base := w.heap.size) (e := 3) (size := 1) w #[] 0 (Nat.le_refl _) (by unfold maxLen; omega) (by simp)
  go_enter Try.func27, Try.ntmps27
  go_wp2_with (at_builtin; refine wpList_append_z rfl (.tmp 5) (.tmp 6) rfl w.heap.size (.slice (some ⟨w.heap.size, 0, none⟩) 0 0) [] rfl HO.out (by simp) (some ad) n c l rfl (HZ.out.below (fresh _ _)) (fun e => by cases e) (by simp; omega) l rfl ?_; intro v' w2 hown hB2)
  go_ret
  exact ⟨_, rfl, hown, (fresh _ _).trans hB2⟩
set_option maxRecDepth 100000 in
theorem zclone_nil (w : World) (n c : Nat) :
    Calls Try.prog 27 #[.slice none n c] w fun e w' => e = .returned (.slice none 0 0) ∧ w' = w := by
  have q29 : ∀ (w : World) (a : Option Addr) (n c n' c' : Nat), (binOp .eql 23 (.slice a n c) (.slice none n' c')).run Try.prog w = .ok (.bool a.isNone) w := fun w a n c n' c' => Lib.run_eql_slice_nil w _ _ a n c n' c' Try.underlying23
  go_enter Try.func27, Try.ntmps27
  go_wp2_with fail
  go_ret
  exact ⟨rfl, rfl⟩
theorem zclone_any {w : World} {a : Option Addr} {n c : Nat} {l : List Int} (h : Zr w a n l) (hn : n ≤ 17592186044416) (hz : a = none → n = 0) :
    Calls Try.prog 27 #[.slice a n c] w fun e w' => ∃ v, e = .returned v ∧ w'.ownsRow w.heap.size 3 1 v l.length (zcells l) ∧ Below w.heap.size w w' := by
  cases a with
  | some ad => exact zclone_some h hn
  | none =>
    have h0 := hz rfl
    subst h0
    have hl := List.length_eq_zero_iff.1 h.1
    subst hl
    refine (zclone_nil w 0 c).mono ?_
    rintro e w' ⟨rfl, rfl⟩
    exact ⟨_, rfl, World.ownsRow_nil _ _ _ _, Below.refl _ _⟩
set_option maxHeartbeats 4000000 in
set_option maxRecDepth 100000 in
theorem lay_land {w : World} {p : PV} {es : List (Int × Int)} {ws : List Int} {ns : List Nat} (h : ArgP w p es ws ns) {a : Option Addr} {m c : Nat} {ps : List Int} (hz : ArgZ w a m c ps) :
    Calls Try.prog 12 #[p.val, .slice a m c] w fun e w' => LayEnd .u16 w.heap.size p ps ws e w' ∧ Below w.heap.size w w' := by
  have HA : Hid (ArgZ w a m c ps) := hz
  have HZ : Hid (Zr w a m ps) := hz.z
  have hm := hz.big
  have hln := hz.z.1
  have HWs : Hid (Zr w p.wa p.wn ws) := h.pl.hw
  have hwb := h.pl.wb
  have HWN : Hid (p.wa = none → p.wn = 0 ∧ p.wc = 0) := h.wn
  have HST := lay_start w p
  have HSx : Hid _ := HST
  clear hz h HST
  obtain ⟨N0, lanes, room, queue, rounds, every, bag, start, ea0, en0, ec0, wa0, wn0, wc0, na0, nn0, nc0⟩ := p
  simp only [PV.val, PV.obj, pz] at HWs hwb HWN HSx ⊢
  cases hl : Tree.layOk ps with
  | false =>
    have HLo : Hid (Tree.layOk ps = false) := hl
    cases hok : Tree.ok ps with
    | false =>
      have hm1 : m ≠ 0 := fun e => by
        have h0 : ps = [] := List.length_eq_zero_iff.1 (by omega)
        rw [h0] at hok
        exact absurd hok (by decide)
      have hm1' : ((m : Int) == 0) = false := by simp; omega
      clear hm1
      go_enter Try.func12, Try.ntmps12
      go_wp2_with fail
      obtain ⟨hS1, hS2, hS3, hS4⟩ := HSx.out _ rfl
      have HS1 : Hid _ := hS1
      have HR0 : Hid _ := hS2
      have HW1 : Hid _ := hS3
      have HSz : Hid _ := hS4
      clear hS1 hS2 hS3 hS4 HSx
      generalize World.alloc _ _ = W1 at HS1 HR0 HW1 HSz ⊢
      obtain ⟨B, hB⟩ : ∃ B, w.heap.size = B := ⟨_, rfl⟩
      rw [hB] at HS1 HR0 HW1 HSz ⊢
      obtain ⟨R, hR⟩ : ∃ R, B + 1 = R := ⟨_, rfl⟩
      rw [hR] at HR0 HSz ⊢
      have HBR : Hid (w.heap.size = B ∧ B + 1 = R) := ⟨hB, hR⟩
      clear hB hR
      refine (isTree_any (HZ.out.below (by rw [HBR.out.1]; exact HW1.out)) hm).mono ?_
      rintro e w' ⟨rfl, hq⟩
      obtain rfl := hq.symm
      rw [hok]
      clear hq
      have HR : Hid (Bx W1 R ⟨0, 0, 0, 0, 0, 0, 0, 0, none, 0, 0, none, 0, 0, none, 0, 0⟩) := HR0.out
      obtain ⟨y0, y1, y2, y3, y4, y5, y6, y7, y8, y9, y10⟩ := HR.out.x
      have f0 := HR.out.f
      simp only at y0 y1 y2 y3 y4 y5 y6 y7 y8 y9 y10
      have x0 := trivial
      go_wp2_with fail
      have HF : Hid (Bxd (lay11 W1 R ⟨0, 0, 0, 0, 0, 0, 0, 0, none, 0, 0, none, 0, 0, none, 0, 0⟩) R ⟨0, 0, 0, 0, 0, 0, 0, 0, none, 0, 0, none, 0, 0, none, 0, 0⟩ ∧ Sans (fun j => j = R) W1 (lay11 W1 R ⟨0, 0, 0, 0, 0, 0, 0, 0, none, 0, 0, none, 0, 0, none, 0, 0⟩)) := ⟨lay11_bxd HR.out _, lay11_sans _ _ _⟩
      unfold lay11 at HF
      simp only at HF
      clear x0 y0 y1 y2 y3 y4 y5 y6 y7 y8 y9 y10 f0
      generalize World.setCell _ ⟨R, 10, none⟩ _ = Wf at HF ⊢
      obtain ⟨x0, x1, x2, x3, x4, x5, x6, x7, x8, x9, x10⟩ := HF.out.1
      simp only at x0 x1 x2 x3 x4 x5 x6 x7 x8 x9 x10
      refine bodyPost_ret (v := .tuple #[PV.val ⟨0, 0, 0, 0, 0, 0, 0, 0, none, 0, 0, none, 0, 0, none, 0, 0⟩, .int .u16 120]) (by simp [results, Try.f12, go_sem, x0, x1, x2, x3, x4, x5, x6, x7, x8, x9, x10, PV.val]) rfl ?_
      exact ⟨LayEnd.bad HLo.out, by rw [HBR.out.1]; exact HW1.out.trans (HF.out.2.below (B := B) (by have := HSz.out; have := HBR.out; omega) (fun j e => by have := HBR.out; omega))⟩
    | true =>
      have hm0 : m = 0 := by
        unfold Tree.layOk at hl
        rw [hok] at hl
        have h0 : ps = [] := by simpa using hl
        rw [← hln, h0]
        rfl
      subst hm0
      go_enter Try.func12, Try.ntmps12
      go_upto_region 2 with fail
      obtain ⟨hS1, hS2, hS3, hS4⟩ := HSx.out _ rfl
      have HS1 : Hid _ := hS1
      have HR0 : Hid _ := hS2
      have HW1 : Hid _ := hS3
      have HSz : Hid _ := hS4
      clear hS1 hS2 hS3 hS4 HSx
      generalize World.alloc _ _ = W1 at HS1 HR0 HW1 HSz ⊢
      obtain ⟨B, hB⟩ : ∃ B, w.heap.size = B := ⟨_, rfl⟩
      rw [hB] at HS1 HR0 HW1 HSz ⊢
      obtain ⟨R, hR⟩ : ∃ R, B + 1 = R := ⟨_, rfl⟩
      rw [hR] at HR0 HSz ⊢
      have HBR : Hid (w.heap.size = B ∧ B + 1 = R) := ⟨hB, hR⟩
      clear hB hR
      have HR : Hid (Bx W1 R ⟨0, 0, 0, 0, 0, 0, 0, 0, none, 0, 0, none, 0, 0, none, 0, 0⟩) := HR0.out
      obtain ⟨y0, y1, y2, y3, y4, y5, y6, y7, y8, y9, y10⟩ := HR.out.x
      have f0 := HR.out.f
      simp only at y0 y1 y2 y3 y4 y5 y6 y7 y8 y9 y10
      have x0 := trivial
      go_wp2_with fail
      have HF : Hid (Bxd (lay11 W1 R ⟨0, 0, 0, 0, 0, 0, 0, 0, none, 0, 0, none, 0, 0, none, 0, 0⟩) R ⟨0, 0, 0, 0, 0, 0, 0, 0, none, 0, 0, none, 0, 0, none, 0, 0⟩ ∧ Sans (fun j => j = R) W1 (lay11 W1 R ⟨0, 0, 0, 0, 0, 0, 0, 0, none, 0, 0, none, 0, 0, none, 0, 0⟩)) := ⟨lay11_bxd HR.out _, lay11_sans _ _ _⟩
      unfold lay11 at HF
      simp only at HF
      clear x0 y0 y1 y2 y3 y4 y5 y6 y7 y8 y9 y10 f0
      generalize World.setCell _ ⟨R, 10, none⟩ _ = Wf at HF ⊢
      obtain ⟨x0, x1, x2, x3, x4, x5, x6, x7, x8, x9, x10⟩ := HF.out.1
      simp only at x0 x1 x2 x3 x4 x5 x6 x7 x8 x9 x10
      refine bodyPost_ret (v := .tuple #[PV.val ⟨0, 0, 0, 0, 0, 0, 0, 0, none, 0, 0, none, 0, 0, none, 0, 0⟩, .int .u16 120]) (by simp [results, Try.f12, go_sem, x0, x1, x2, x3, x4, x5, x6, x7, x8, x9, x10, PV.val]) rfl ?_
      exact ⟨LayEnd.bad HLo.out, by rw [HBR.out.1]; exact HW1.out.trans (HF.out.2.below (B := B) (by have := HSz.out; have := HBR.out; omega) (fun j e => by have := HBR.out; omega))⟩
  | true =>
    have HLo : Hid (Tree.layOk ps = true) := hl
    have hok : Tree.ok ps = true := by
      unfold Tree.layOk at hl
      rw [Bool.and_eq_true] at hl
      exact hl.1
    have HOk : Hid (Tree.ok ps = true) := hok
    have hm1 : m ≠ 0 := by
      unfold Tree.layOk at hl
      rw [Bool.and_eq_true, decide_eq_true_eq] at hl
      omega
    have hm1' : ((m : Int) == 0) = false := by simp; omega
    have hm5 : m ≤ 5 := by have := (Tree.ok_parts hok).1; omega
    have HLn : Hid (ps.length = m) := hln
    clear hl hln hm1
    go_enter Try.func12, Try.ntmps12
    go_wp2_with fail
    obtain ⟨hS1, hS2, hS3, hS4⟩ := HSx.out _ rfl
    have HS1 : Hid _ := hS1
    have HR0 : Hid _ := hS2
    have HW1 : Hid _ := hS3
    have HSz : Hid _ := hS4
    clear hS1 hS2 hS3 hS4 HSx
    generalize World.alloc _ _ = W1 at HS1 HR0 HW1 HSz ⊢
    obtain ⟨B, hB⟩ : ∃ B, w.heap.size = B := ⟨_, rfl⟩
    rw [hB] at HS1 HR0 HW1 HSz ⊢
    obtain ⟨R, hR⟩ : ∃ R, B + 1 = R := ⟨_, rfl⟩
    rw [hR] at HR0 HSz ⊢
    have HBR : Hid (w.heap.size = B ∧ B + 1 = R) := ⟨hB, hR⟩
    have HA1 : Hid (ArgZ W1 a m c ps) := HA.out.below (by rw [hB]; exact HW1.out)
    clear hB hR
    refine (isTree_any HA1.out.z hm).mono ?_
    rintro e w' ⟨rfl, hq⟩
    obtain rfl := hq.symm
    rw [hok]
    clear hq hok
    have hb0 := HS1.out.x.c0
    have hbf := HS1.out.f
    simp only at hb0
    go_wp2_with (go_at_call 24; refine (nodes_any _ _ _ _ hm).mono ?_; rintro e w1 ⟨rfl, hq⟩; obtain rfl := hq.symm; clear hq)
    have HX2 : Hid (Bx (W1.setCell ⟨B, 0, none⟩ (.int .i64 ((m : Int) + 1))) B ⟨((m : Int) + 1), lanes, room, queue, rounds, every, bag, start, ea0, en0, ec0, wa0, wn0, wc0, na0, nn0, nc0⟩ ∧ Sans (fun j => j = B) W1 (W1.setCell ⟨B, 0, none⟩ (.int .i64 ((m : Int) + 1)))) := ⟨HS1.out.set0 ((m : Int) + 1), (Sans.refl (fun j => j = B) W1).stored 0 _⟩
    clear hb0 hbf
    generalize World.setCell _ ⟨B, 0, none⟩ _ = W2 at HX2 ⊢
    have HR2 : Hid (Bx W2 R ⟨0, 0, 0, 0, 0, 0, 0, 0, none, 0, 0, none, 0, 0, none, 0, 0⟩) := HR0.out.sans HX2.out.2 (by have := HBR.out; omega)
    have hW2 : R < W2.heap.size := by have := HX2.out.2.size; have := HSz.out; omega
    have HB2 : Hid (Below B w W2) := HW1.out.trans (HX2.out.2.below (B := B) (by have := HSz.out; have := HBR.out; omega) (fun j e => by omega))
    have HA2 : Hid (ArgZ W2 a m c ps) := HA.out.below (by have := HBR.out.1; rw [this]; exact HB2.out)
    refine (edges_land HA2.out.z hm5).mono ?_
    rintro e W3 ⟨xe, rfl, hOe, hB3⟩
    obtain ⟨ea, ec, rfl, hze, hle, hme, hne, hge⟩ := pr_of_owns hOe
    rw [Tree.edges_len, HLn.out] at hOe ⊢
    have HOe : Hid (W3.ownsRow W2.heap.size 59 2 (.slice ea m ec) m (pcells (Tree.edges ps))) := hOe
    have HB3 : Hid (Below W2.heap.size W2 W3) := hB3
    have HX3 : Hid (Bx W3 B ⟨((m : Int) + 1), lanes, room, queue, rounds, every, bag, start, ea0, en0, ec0, wa0, wn0, wc0, na0, nn0, nc0⟩) := HX2.out.1.below hB3 (by have := HBR.out; omega)
    have HR3 : Hid (Bx W3 R ⟨0, 0, 0, 0, 0, 0, 0, 0, none, 0, 0, none, 0, 0, none, 0, 0⟩) := HR2.out.below hB3 hW2
    have HA3 : Hid (ArgZ W3 a m c ps) := HA2.out.below hB3
    have hc1 := HX3.out.x.c1
    have hf3 := HX3.out.f
    have hs3 := hB3.size
    simp only at hc1
    clear hOe hB3 hze hle hme hne hge
    go_wp2_with fail
    have HX4 : Hid (Bx (W3.setCell ⟨B, 1, none⟩ (.slice ea m ec)) B ⟨((m : Int) + 1), lanes, room, queue, rounds, every, bag, start, ea, m, ec, wa0, wn0, wc0, na0, nn0, nc0⟩ ∧ Sans (fun j => j = B) W3 (W3.setCell ⟨B, 1, none⟩ (.slice ea m ec))) := ⟨HX3.out.setE ea m ec, (Sans.refl (fun j => j = B) W3).stored 1 _⟩
    clear hc1 hf3
    generalize World.setCell _ ⟨B, 1, none⟩ _ = W4 at HX4 ⊢
    have hBR' := HBR.out
    have hs4 := HX4.out.2.size
    have HR4 : Hid (Bx W4 R ⟨0, 0, 0, 0, 0, 0, 0, 0, none, 0, 0, none, 0, 0, none, 0, 0⟩) := HR3.out.sans HX4.out.2 (by omega)
    have HB4 : Hid (Below B w W4) := (HB2.out.trans (HB3.out.mono (by omega))).trans (HX4.out.2.below (B := B) (by omega) (fun j e => by omega))
    have HA4 : Hid (ArgZ W4 a m c ps) := HA.out.below (by have := HBR.out.1; rw [this]; exact HB4.out)
    refine (next_land HA4.out HOk.out).mono ?_
    rintro e W5 ⟨xn, vs, rfl, hRb, hB5⟩
    obtain ⟨na, nc, rfl, hzn, hln', hmn, hnn, hgn⟩ := mr_of_rb hRb
    have hrl : (Tree.rows ps).length = m + 1 := by rw [Tree.rows_len, HLn.out]
    rw [hrl] at hRb ⊢
    have HRb : Hid (Rb W5 W4.heap.size (.slice na (m + 1) nc) (m + 1) (Tree.rows ps) vs) := hRb
    have HB5 : Hid (Below W4.heap.size W4 W5) := hB5
    have HX5 : Hid (Bx W5 B ⟨((m : Int) + 1), lanes, room, queue, rounds, every, bag, start, ea, m, ec, wa0, wn0, wc0, na0, nn0, nc0⟩) := HX4.out.1.below hB5 (by omega)
    have HR5 : Hid (Bx W5 R ⟨0, 0, 0, 0, 0, 0, 0, 0, none, 0, 0, none, 0, 0, none, 0, 0⟩) := HR4.out.below hB5 (by omega)
    have hc10 := HX5.out.x.c10
    have hc8 := HX5.out.x.c8
    have hf5 := HX5.out.f
    have hs5 := hB5.size
    simp only at hc10 hc8
    clear hRb hB5 hzn hln' hmn hnn hgn hrl
    go_upto_region 6 with fail
    have HX6 : Hid (Bx (W5.setCell ⟨B, 10, none⟩ (.slice na (m + 1) nc)) B ⟨((m : Int) + 1), lanes, room, queue, rounds, every, bag, start, ea, m, ec, wa0, wn0, wc0, na, m + 1, nc⟩ ∧ Sans (fun j => j = B) W5 (W5.setCell ⟨B, 10, none⟩ (.slice na (m + 1) nc))) := ⟨HX5.out.setN na (m + 1) nc, (Sans.refl (fun j => j = B) W5).stored 10 _⟩
    clear hc10 hf5 hc8
    generalize World.setCell _ ⟨B, 10, none⟩ _ = W6 at HX6 ⊢
    have hs6 := HX6.out.2.size
    have HR6 : Hid (Bx W6 R ⟨0, 0, 0, 0, 0, 0, 0, 0, none, 0, 0, none, 0, 0, none, 0, 0⟩) := HR5.out.sans HX6.out.2 (by omega)
    have HB6 : Hid (Below B w W6) := (HB4.out.trans (HB5.out.mono (by omega))).trans (HX6.out.2.below (B := B) (by omega) (fun j e => by omega))
    have hc8 := HX6.out.1.x.c8
    simp only at hc8
    go_wp2_with fail
    refine (zclone_any (HWs.out.below (by have := HBR.out.1; rw [this]; exact HB6.out)) (by omega) (fun e => (HWN.out e).1)).mono ?_
    rintro e W7 ⟨xw, rfl, hOw, hB7⟩
    obtain ⟨wa, wc, rfl, hzw, hlw, hmw, hnw, hgw⟩ := zr_of_owns hOw
    rw [HWs.out.1] at hOw ⊢
    have HOw : Hid (W7.ownsRow W6.heap.size 3 1 (.slice wa wn0 wc) wn0 (zcells ws)) := hOw
    have HB7 : Hid (Below W6.heap.size W6 W7) := hB7
    have HX7 : Hid (Bx W7 B ⟨((m : Int) + 1), lanes, room, queue, rounds, every, bag, start, ea, m, ec, wa0, wn0, wc0, na, m + 1, nc⟩) := HX6.out.1.below hB7 (by omega)
    have HR7 : Hid (Bx W7 R ⟨0, 0, 0, 0, 0, 0, 0, 0, none, 0, 0, none, 0, 0, none, 0, 0⟩) := HR6.out.below hB7 (by omega)
    have hd8 := HX7.out.x.c8
    have hf7 := HX7.out.f
    have hs7 := hB7.size
    simp only at hd8
    clear hOw hB7 hzw hlw hmw hnw hgw hc8
    go_upto_region 7 with fail
    have HX8 : Hid (Bx (W7.setCell ⟨B, 8, none⟩ (.slice wa wn0 wc)) B ⟨((m : Int) + 1), lanes, room, queue, rounds, every, bag, start, ea, m, ec, wa, wn0, wc, na, m + 1, nc⟩ ∧ Sans (fun j => j = B) W7 (W7.setCell ⟨B, 8, none⟩ (.slice wa wn0 wc))) := ⟨HX7.out.setW wa wn0 wc, (Sans.refl (fun j => j = B) W7).stored 8 _⟩
    clear hd8 hf7
    generalize World.setCell _ ⟨B, 8, none⟩ _ = W8 at HX8 ⊢
    have hs8 := HX8.out.2.size
    have HR8 : Hid (Bx W8 R ⟨0, 0, 0, 0, 0, 0, 0, 0, none, 0, 0, none, 0, 0, none, 0, 0⟩) := HR7.out.sans HX8.out.2 (by omega)
    obtain ⟨x0, x1, x2, x3, x4, x5, x6, x7, x8, x9, x10⟩ := HX8.out.1.x
    obtain ⟨y0, y1, y2, y3, y4, y5, y6, y7, y8, y9, y10⟩ := HR8.out.x
    have f0 := HR8.out.f
    simp only at x0 x1 x2 x3 x4 x5 x6 x7 x8 x9 x10 y0 y1 y2 y3 y4 y5 y6 y7 y8 y9 y10
    go_wp2_with fail
    have HF : Hid (Bxd (lay11 W8 R ⟨((m : Int) + 1), lanes, room, queue, rounds, every, bag, start, ea, m, ec, wa, wn0, wc, na, m + 1, nc⟩) R ⟨((m : Int) + 1), lanes, room, queue, rounds, every, bag, start, ea, m, ec, wa, wn0, wc, na, m + 1, nc⟩ ∧ Sans (fun j => j = R) W8 (lay11 W8 R ⟨((m : Int) + 1), lanes, room, queue, rounds, every, bag, start, ea, m, ec, wa, wn0, wc, na, m + 1, nc⟩)) := ⟨lay11_bxd HR8.out _, lay11_sans _ _ _⟩
    unfold lay11 at HF
    simp only at HF
    clear x0 x1 x2 x3 x4 x5 x6 x7 x8 x9 x10 y0 y1 y2 y3 y4 y5 y6 y7 y8 y9 y10 f0
    generalize World.setCell _ ⟨R, 10, none⟩ _ = Wf at HF ⊢
    obtain ⟨x0, x1, x2, x3, x4, x5, x6, x7, x8, x9, x10⟩ := HF.out.1
    simp only at x0 x1 x2 x3 x4 x5 x6 x7 x8 x9 x10
    refine bodyPost_ret (v := .tuple #[PV.val ⟨((m : Int) + 1), lanes, room, queue, rounds, every, bag, start, ea, m, ec, wa, wn0, wc, na, m + 1, nc⟩, .int .u16 0]) (by simp [results, Try.f12, go_sem, x0, x1, x2, x3, x4, x5, x6, x7, x8, x9, x10, PV.val]) rfl ?_
    have hS36 : Sans (fun j => j = B) W3 W6 := (HX4.out.2.then (Sans.of_below HB5.out)).then HX6.out.2
    have hS68 : Sans (fun j => j = B) W6 W8 := (Sans.of_below HB7.out).then HX8.out.2
    refine ⟨LayEnd.good HLo.out (q := ⟨((m : Int) + 1), lanes, room, queue, rounds, every, bag, start, ea, m, ec, wa, wn0, wc, na, m + 1, nc⟩) ?_, ?_⟩
    · have h1 := owns_sans (owns_sans (owns_sans HOe.out hS36 (fun j hj e => by omega)) hS68 (fun j hj e => by omega)) HF.out.2 (fun j hj e => by omega)
      have h2 := owns_sans (owns_sans HOw.out HX8.out.2 (fun j hj e => by omega)) HF.out.2 (fun j hj e => by omega)
      have h3 := ((HRb.out.sans HX6.out.2 (fun j hj e => by omega)).sans hS68 (fun j hj e => by omega)).sans HF.out.2 (fun j hj e => by omega)
      have hrl : (Tree.rows ps).length = m + 1 := by rw [Tree.rows_len, HLn.out]
      have hpl := HLn.out
      exact ⟨by simp only; omega, rfl, rfl, rfl, rfl, rfl, rfl, rfl, by rw [Tree.edges_len, hpl]; exact owns_mono h1 (by omega), by rw [HWs.out.1]; exact owns_mono h2 (by omega), _, by rw [hrl]; exact h3.mono (by omega)⟩
    · rw [hBR'.1]
      exact HB6.out.trans ((hS68.below (B := B) (by omega) (fun j e => by omega)).trans (HF.out.2.below (B := B) (by omega) (fun j e => by omega)))
/-- package tree as it landed is what TreeSpec says -/
theorem treeSpec : TreeSpec where
  path := fun {w a n c ps} h v u hv hu => by
    by_cases hb : (Tree.ok ps && Tree.isNode ps v && Tree.isNode ps u) = true
    · have hb' := hb
      simp only [Bool.and_eq_true, Tree.isNode, decide_eq_true_eq] at hb'
      obtain ⟨⟨h1, h2, h3⟩, h4, h5⟩ := hb'
      obtain ⟨v, rfl⟩ := Int.eq_ofNat_of_zero_le h2
      obtain ⟨u, rfl⟩ := Int.eq_ofNat_of_zero_le h4
      have hl := h.z.1
      have hp : Tree.pathOf ps (v : Int) (u : Int) = Tree.path ps v u := by unfold Tree.pathOf; rw [if_pos hb]; rfl
      have hs := Tree.path_small h1 (v := v) (w := u) (by omega) (by omega)
      rw [hp]
      refine (path_in h v u h1 (by omega) (by omega)).mono ?_
      rintro e w' ⟨x, rfl, hown, hB⟩
      obtain ⟨a', c', rfl, hz⟩ := argz_of_owns hown (by omega) (fun x hx => by have := hs.2.2.1 x hx; unfold I64; omega)
      exact ⟨a', c', rfl, hz, hB⟩
    · have hb' : (Tree.ok ps && Tree.isNode ps v && Tree.isNode ps u) = false := by simpa using hb
      have hp : Tree.pathOf ps v u = [] := by unfold Tree.pathOf; rw [if_neg hb]
      rw [hp]
      refine (path_no h v u hb').mono ?_
      rintro e w' ⟨rfl, hB⟩
      exact ⟨none, 0, rfl, ⟨Zr.nil, ⟨Nat.le_refl _, Nat.zero_le _⟩, fun _ => rfl, Nat.zero_le _, fun x hx => by cases hx⟩, hB⟩
  lay := fun {_ _ _ _ _} h {_ _ _ _} k => lay_land h k
end Go.Proofs.Ytipdcpekepiphaa
