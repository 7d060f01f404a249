/-
  The law's own alike (package shunterlaw13): two plans of the same numbers, whose rows lead to the same. Conditions: none.
-/
import Derived.Test.YtipdcpekepiphaaTreeLaid
import Derived.Deep.RegionHeld3
namespace Go.Proofs.Ytipdcpekepiphaa
open Go.ChangeShapes Go.WideShapes Go.ChangeAt Go.RowKit
set_option linter.unusedVariables false

theorem tneE (w : World) (a b c d : Int) : (binOp .neq 59 (.agg #[.int .i64 a, .int .i64 b]) (.agg #[.int .i64 c, .int .i64 d])).run Try.prog w = .ok (.bool (!(a == c && b == d))) w := by
  have u3 := Try.underlying3
  have a3 := Try.isAgg3
  have z3 := Try.sizeOf3
  have hS : Try.prog.underlying 59 = some (.struct (Try.prog.fieldsOf 59)) := by kernel_rfl
  have hp : Try.prog.stoodInHeld 59 = false := by kernel_rfl
  rw [run_neq_struct, show (10000 : Nat) = 9999 + 1 from rfl, run_equalIn_agg w 9999 59 _ _ hS hp]
  simp only [Program.fieldsOf, Try.underlying59]
  go_simp
  by_cases h1 : a = c <;> by_cases h2 : b = d <;> simp [h1, h2]
/-- the rows of two plans lead to the same -/
structure Alk (w : World) (p q : PV) (es : List (Int × Int)) (ws : List Int) (rs : List (List Int)) : Prop where
  nodes : q.nodes = p.nodes
  lanes : q.lanes = p.lanes
  room : q.room = p.room
  queue : q.queue = p.queue
  rounds : q.rounds = p.rounds
  every : q.every = p.every
  bag : q.bag = p.bag
  start : q.start = p.start
  e1 : Pr w p.ea p.en es
  e2 : Pr w q.ea q.en es
  w1 : Zr w p.wa p.wn ws
  w2 : Zr w q.wa q.wn ws
  n1 : Mr w p.na p.nn rs
  n2 : Mr w q.na q.nn rs
  eb : p.en ≤ 8796093022208
  wb : p.wn ≤ 17592186044416
  nb : p.nn ≤ 8796093022208
  rb : ∀ k, (rs.getD k []).length ≤ 17592186044416
set_option maxHeartbeats 4000000 in
set_option maxRecDepth 100000 in
theorem alike_any {w : World} {p q : PV} {es : List (Int × Int)} {ws : List Int} {rs : List (List Int)} (h : Alk w p q es ws rs) :
    Calls Try.prog 20 #[p.val, q.val] w fun e w' => e = .returned (.bool true) ∧ Below w.heap.size w w' := by
  obtain ⟨N, la, ro, qu, rd, ev, ba, st, ea, en, ec, wa, wn, wc, na, nn, nc⟩ := p
  obtain ⟨N', la', ro', qu', rd', ev', ba', st', eb, em, ed, wb, wm, wd, nb, nm, nd⟩ := q
  obtain ⟨l0, l1, l2, l3, l4, l5, l6, l7, e1, e2, w1, w2, n1, n2, h1, h2, h3, h4⟩ := h
  simp only at l0 l1 l2 l3 l4 l5 l6 l7 e1 e2 w1 w2 n1 n2 h1 h2 h3
  have q1 := e1.1.symm.trans e2.1
  have q2 := w1.1.symm.trans w2.1
  have q3 := n1.1.symm.trans n2.1
  subst l0 l1 l2 l3 l4 l5 l6 l7 q1 q2 q3
  obtain ⟨p, hp⟩ : ∃ p : PV, p = ⟨N', la', ro', qu', rd', ev', ba', st', ea, en, ec, wa, wn, wc, na, nn, nc⟩ := ⟨_, rfl⟩
  obtain ⟨q, hq⟩ : ∃ q : PV, q = ⟨N', la', ro', qu', rd', ev', ba', st', eb, en, ed, wb, wn, wd, nb, nn, nd⟩ := ⟨_, rfl⟩
  have HB0 : Hid (Below w.heap.size w ((w.alloc p.obj).alloc q.obj)) := later (fresh _ _) (fresh _ _)
  have HXp : Hid (Bxd ((w.alloc p.obj).alloc q.obj) w.heap.size p) := (bxd_new w p).below (fresh _ _)
  have HXq : Hid (Bxd ((w.alloc p.obj).alloc q.obj) (w.alloc p.obj).heap.size q) := bxd_new _ q
  subst hp hq
  simp only [PV.obj, World.size_alloc] at HB0 HXp HXq
  simp only [PV.val]
  have HE1 : Hid (Pr w ea en es) := e1
  have HE2 : Hid (Pr w eb en es) := e2
  have HW1 : Hid (Zr w wa wn ws) := w1
  have HW2 : Hid (Zr w wb wn ws) := w2
  have HN1 : Hid (Mr w na nn rs) := n1
  have HN2 : Hid (Mr w nb nn rs) := n2
  have HRb : Hid (∀ k, (rs.getD k []).length ≤ 17592186044416) := h4
  clear e1 e2 w1 w2 n1 n2 h4
  go_enter Try.func20, Try.ntmps20
  go_upto_region 2 with fail
  refine (tsame_any (HW1.out.below HB0.out) (HW2.out.below HB0.out) h2).mono ?_
  rintro e W ⟨rfl, hB⟩
  have HB : Hid (Below w.heap.size w W) := later HB0.out hB
  have hX := HXp.out.below hB
  have hY := HXq.out.below hB
  have HX : Hid (W.cell? ⟨w.heap.size, 1, none⟩ = some (.slice ea en ec) ∧ W.cell? ⟨w.heap.size, 10, none⟩ = some (.slice na nn nc)) := ⟨hX.c1, hX.c10⟩
  have HY : Hid (W.cell? ⟨w.heap.size + 1, 1, none⟩ = some (.slice eb en ed) ∧ W.cell? ⟨w.heap.size + 1, 10, none⟩ = some (.slice nb nn nd)) := ⟨hY.c1, hY.c10⟩
  obtain ⟨x1, x10⟩ := HX.out
  obtain ⟨y1, y10⟩ := HY.out
  have HP1 : Hid (Pr W ea en es) := HE1.out.below HB.out
  have HP2 : Hid (Pr W eb en es) := HE2.out.below HB.out
  have HM1 : Hid (Mr W na nn rs) := HN1.out.below HB.out
  have HM2 : Hid (Mr W nb nn rs) := HN2.out.below HB.out
  clear hX hY hB HXp HXq HB0 HE1 HE2 HN1 HN2 HW1 HW2
  go_wp2_with fail
  clear x1 x10 y1 y10
  go_loopw [5] (fun i wr => ∃ k : Nat, k ≤ en ∧ i = .int .i64 k ∧ Below W.heap.size W wr) (fun i _ => en - (intOf i).toNat)
  case atStart => exact ⟨0, Nat.zero_le _, rfl, Below.refl _ _⟩
  case round =>
    obtain ⟨k, hk, rfl, hBk⟩ := hrel
    have HBk : Hid (Below W.heap.size W wr) := hBk
    have x1 : wr.cell? ⟨w.heap.size, 1, none⟩ = _ := (hBk.cell (p := ⟨w.heap.size, 1, none⟩) (cell_lt HX.out.1)).trans HX.out.1
    have y1 : wr.cell? ⟨w.heap.size + 1, 1, none⟩ = _ := (hBk.cell (p := ⟨w.heap.size + 1, 1, none⟩) (cell_lt HY.out.1)).trans HY.out.1
    by_cases hkn : k < en
    · obtain ⟨b1, o1, e1, c1, d1⟩ := (HP1.out.below hBk).at hkn
      obtain ⟨b2, o2, e2, c2, d2⟩ := (HP2.out.below hBk).at hkn
      subst e1
      subst e2
      obtain ⟨⟨A, B⟩, hy⟩ : ∃ y, es.getD k (0, 0) = y := ⟨_, rfl⟩
      rw [hy] at c1 d1 c2 d2
      simp only at c1 d1 c2 d2
      have hne := fun w => tneE w A B A B
      simp only [beq_self_eq_true, Bool.and_self, Bool.not_true] at hne
      have hgd := gdE
      clear hy hBk
      go_wp2_with fail
      go_region
      go_wp2_with fail
      go_roundw
      case rel => first | exact ⟨k + 1, by omega, by go_num, HBk.out.drew⟩ | ((repeat apply Exists.intro); exact ⟨⟨k + 1, by omega, by go_num, HBk.out.drew⟩, rfl⟩)
      case measure => simp [intOf]; omega
    · obtain rfl : k = en := by omega
      have x10 : wr.cell? ⟨w.heap.size, 10, none⟩ = _ := (hBk.cell (p := ⟨w.heap.size, 10, none⟩) (cell_lt HX.out.2)).trans HX.out.2
      have y10 : wr.cell? ⟨w.heap.size + 1, 10, none⟩ = _ := (hBk.cell (p := ⟨w.heap.size + 1, 10, none⟩) (cell_lt HY.out.2)).trans HY.out.2
      have HX10 : Hid (wr.cell? ⟨w.heap.size, 10, none⟩ = some (.slice na nn nc)) := x10
      have HY10 : Hid (wr.cell? ⟨w.heap.size + 1, 10, none⟩ = some (.slice nb nn nd)) := y10
      have HR1 : Hid (Mr wr na nn rs) := HM1.out.below hBk
      have HR2 : Hid (Mr wr nb nn rs) := HM2.out.below hBk
      have HBw : Hid (Below w.heap.size w wr) := later HB.out hBk
      clear hBk HBk HX HY HM1 HM2 HP1 HP2 HB
      go_wp2_with fail
      clear x10 y10 x1 y1
      rename_i wold
      generalize hW2 : wr = W2 at HX10 HY10 HR1 HR2 HBw ⊢
      clear hW2
      go_loopw [6] (fun i wr => ∃ j : Nat, j ≤ nn ∧ i = .int .i64 j ∧ Below W2.heap.size W2 wr) (fun i _ => nn - (intOf i).toNat)
      case atStart => exact ⟨0, Nat.zero_le _, rfl, Below.refl _ _⟩
      case round =>
        obtain ⟨j, hj, rfl, hBj⟩ := hrel
        have HBj : Hid (Below W2.heap.size W2 wr) := hBj
        have x10 : wr.cell? ⟨w.heap.size, 10, none⟩ = _ := (hBj.cell (p := ⟨w.heap.size, 10, none⟩) (cell_lt HX10.out)).trans HX10.out
        have y10 : wr.cell? ⟨w.heap.size + 1, 10, none⟩ = _ := (hBj.cell (p := ⟨w.heap.size + 1, 10, none⟩) (cell_lt HY10.out)).trans HY10.out
        by_cases hjn : j < nn
        · obtain ⟨b1, o1, a1, k1, e1, c1, z1, _⟩ := (HR1.out.below hBj).at hjn
          obtain ⟨b2, o2, a2, k2, e2, c2, z2, _⟩ := (HR2.out.below hBj).at hjn
          subst e1
          subst e2
          have hrb := HRb.out j
          obtain ⟨r, hr⟩ : ∃ r, rs.getD j [] = r := ⟨_, rfl⟩
          rw [hr] at c1 z1 c2 z2 hrb
          obtain ⟨m, hm⟩ : ∃ m, r.length = m := ⟨_, rfl⟩
          rw [hm] at c1 z1 c2 z2 hrb
          have HZ1 : Hid (Zr wr a1 m r) := z1
          have HZ2 : Hid (Zr wr a2 m r) := z2
          clear hr hm z1 z2 hBj
          go_wp2_with fail
          have HK : Hid (∀ wx, Below wr.heap.size wr wx → wx.cell? ⟨w.heap.size, 10, none⟩ = some (.slice (some ⟨b1, o1, none⟩) nn nc) ∧ wx.cell? ⟨w.heap.size + 1, 10, none⟩ = some (.slice (some ⟨b2, o2, none⟩) nn nd) ∧ wx.cell? ⟨b1, o1 + j, none⟩ = some (.slice a1 m k1) ∧ wx.cell? ⟨b2, o2 + j, none⟩ = some (.slice a2 m k2)) := fun wx h => ⟨(h.cell (p := ⟨w.heap.size, 10, none⟩) (cell_lt x10)).trans x10, (h.cell (p := ⟨w.heap.size + 1, 10, none⟩) (cell_lt y10)).trans y10, (h.cell (p := ⟨b1, o1 + j, none⟩) (cell_lt c1)).trans c1, (h.cell (p := ⟨b2, o2 + j, none⟩) (cell_lt c2)).trans c2⟩
          have HK0 : Hid _ := HK.out wr.drew (Below.refl _ _).drew
          go_region_held3 (fun wx => wx.cell? ⟨w.heap.size, 10, none⟩ = some (.slice (some ⟨b1, o1, none⟩) nn nc) ∧ wx.cell? ⟨w.heap.size + 1, 10, none⟩ = some (.slice (some ⟨b2, o2, none⟩) nn nd) ∧ wx.cell? ⟨b1, o1 + j, none⟩ = some (.slice a1 m k1) ∧ wx.cell? ⟨b2, o2 + j, none⟩ = some (.slice a2 m k2)) (first | with_reducible exact HK0.out | with_reducible exact HK9.out | go_keep) (first | (go_at_call 16; refine (tsame_any (HZ1.out.below (Below.refl _ _).drew) (HZ2.out.below (Below.refl _ _).drew) hrb).mono ?_; rintro e w9 ⟨rfl, hB9⟩; have HB9 : Hid (Below wr.heap.size wr w9) := (by have h := (Below.refl wr.heap.size wr).drew; exact later h hB9); have HK9 : Hid _ := HK.out w9 HB9.out; clear hB9))
          all_goals go_wp2_with fail
          exact ⟨⟨j + 1, by omega, by go_num, later HBj.out HB9.out⟩, by simp [intOf]; omega⟩
        · obtain rfl : j = nn := by omega
          clear hBj
          go_wp2_with fail
          go_ret
          exact ⟨rfl, later HBw.out HBj.out⟩
end Go.Proofs.Ytipdcpekepiphaa
