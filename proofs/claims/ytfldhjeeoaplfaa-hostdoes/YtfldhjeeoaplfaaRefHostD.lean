/-
  The document's own host (package shunterref15): Next on the call's own. Conditions: none but that the host is such.
-/
import Derived.Test.YtfldhjeeoaplfaaRefHostC
import Derived.Deep.DeepCutAuto
namespace Go.Proofs.Ytfldhjeeoaplfaa
open Go.ChangeShapes Go.WideShapes Go.ChangeAt Go.RowKit
set_option linter.unusedVariables false

theorem kcells_append (xs ys : List Pk) : kcells (xs ++ ys) = kcells xs ++ kcells ys := by simp [kcells]
theorem kcells_one (xs : List Pk) : ∀ u ∈ kcells xs, u.oneCell' = true := by
  intro u hu
  obtain ⟨x, _, hx⟩ := List.mem_flatMap.1 hu
  exact four_one _ _ _ _ u hx
/-- append of packets to a slice of packets that is new since B -/
theorem wpList_append_pks {w : World} {ops : Array Oper} {rest : List Oper} {o : Oper} {a : Act} {Q : Exit → Act → World → Prop} (hgd : o.guard = none) (s x : Operand)
    (ho : o.op = .call { callee := .builtin .append, args := #[s, x], argTypes := #[31, 31] })
    (B : Nat) (hB : B ≤ w.heap.size) (a1 : Option Addr) (n1 cap1 : Nat) (l1 : List Pk) (hs : a.eval s = .slice a1 n1 cap1) (h1 : w.ownsRow B 27 4 (.slice a1 n1 cap1) n1 (kcells l1))
    (ad : Addr) (m c : Nat) (l2 : List Pk) (hx : a.eval x = .slice (some ad) m c) (hm : l2.length = m) (h2 : ∀ (j : Nat) (u : Value), (kcells l2)[j]? = some u → w.cell? (ad.add j) = some u) (hb : n1 + m ≤ 1000000) (tot : Nat) (ht : n1 + m = tot)
    (h : ∀ a' cap' w', w'.ownsRow B 27 4 (.slice a' tot cap') tot (kcells (l1 ++ l2)) → Below B w w' → wpList Try.prog ops Q rest (a.put o.dst (.slice a' tot cap')) w') : wpList Try.prog ops Q (o :: rest) a w := by
  subst ht
  obtain ⟨i0, hi, hz0, hz1, hz2⟩ := info_parts infoPk
  refine wpList_append_own w hgd s x 31 ho B 27 i0 _ 4 32 Try.underlying31 hi hz0 hz1 hz2 rfl (by decide) _ n1 (kcells l1) hs h1 ad m c (kcells l2) hx (by rw [kcells_length, hm]) h2 (kcells_one l2) (by unfold maxLen; omega) (by omega) hB ?_
  intro v' w' hown' hg hnil
  rw [← kcells_append] at hown'
  have hBw : Below B w w' := (Below.refl B w).grown hg hB (fun k hk => (h1.lt k hk).1)
  rcases hown'.2 with ⟨rfl, h0⟩ | ⟨g, cp, cur, rfl, _⟩
  · have := h none 0 w' (by rw [h0] at hown' ⊢; exact hown') hBw
    rw [h0] at this
    exact this
  · exact h (some ⟨g, 0, none⟩) cp w' hown' hBw
theorem HIn.cells {w : World} {F : Nat → Prop} {r n q g : Nat} {L G : List Pk} {b : Option Addr} {cap capb : Nat} (h : HIn w F r n q L G (some ⟨g, 0, none⟩) cap b capb) : ∀ (j : Nat) (u : Value), (kcells L)[j]? = some u → w.cell? ⟨g, j, none⟩ = some u := by
  intro j u hj
  have hlt := (List.getElem?_eq_some_iff.1 hj).1
  rw [kcells_length] at hlt
  rw [h.rowL.cellAt j hlt]
  exact hj
theorem kcells_take {L : List Pk} {k j : Nat} {u : Value} (h : (kcells (L.take k))[j]? = some u) : (kcells L)[j]? = some u := by
  have hlt := (List.getElem?_eq_some_iff.1 h).1
  have e : kcells L = kcells (L.take k) ++ kcells (L.drop k) := by rw [← kcells_append, List.take_append_drop]
  rw [e, List.getElem?_append_left hlt]
  exact h
theorem kcells_drop {L : List Pk} {k j : Nat} {u : Value} (hk : k ≤ L.length) (h : (kcells (L.drop k))[j]? = some u) : (kcells L)[k * 4 + j]? = some u := by
  have e : kcells L = kcells (L.take k) ++ kcells (L.drop k) := by rw [← kcells_append, List.take_append_drop]
  have hl : (kcells (L.take k)).length = k * 4 := by rw [kcells_length, List.length_take, Nat.min_eq_left hk]
  rw [e, List.getElem?_append_right (by omega), hl, show k * 4 + j - k * 4 = j by omega]
  exact h
/-- the row that field 2 leads to is another one, new since B -/
theorem next_ref {w u3 : World} {F : Nat → Prop} {r n q m : Nat} {L L' G : List Pk} {a a3 b : Option Addr} {cap cap3 capb : Nat} (h : HIn w F r n q L G a cap b capb) (hm : L'.length = m) (hf : Hst.Fits n q L') (b3 : Below w.heap.size w u3) {B : Nat} (hB : w.heap.size ≤ B)
    (o3 : u3.ownsRow B 27 4 (.slice a3 m cap3) m (kcells L')) :
    HAt (u3.setCell ⟨r, 2, none⟩ (.slice a3 m cap3)) (fun k => F k ∨ (B ≤ k ∧ k < u3.heap.size)) r n q L' G ∧ Sans F w (u3.setCell ⟨r, 2, none⟩ (.slice a3 m cap3)) := by
  subst hm
  have hrl : r < w.heap.size := h.foot r h.self
  have S2 : Sans (fun k => k = r) u3 (u3.setCell ⟨r, 2, none⟩ (.slice a3 L'.length cap3)) := Sans.of_set u3 ⟨r, 2, none⟩ _ rfl
  have S12 : Sans F w (u3.setCell ⟨r, 2, none⟩ (.slice a3 L'.length cap3)) := (Sans.of_below b3).then (S2.mono (fun k e => by rw [e]; exact h.self))
  have hob : ∀ ad, a3 = some ad → B ≤ ad.block ∧ ad.block < u3.heap.size := fun ad e => o3.lt ad.block (by rw [e]; rfl)
  have c2 : u3.cell? ⟨r, 2, none⟩ = some (.slice a L.length cap) := (b3.cell (p := ⟨r, 2, none⟩) hrl).trans h.c2
  have o0 : u3.ownsRow 0 27 4 (.slice a3 L'.length cap3) L'.length (kcells L') := by
    refine ⟨o3.1, ?_⟩
    rcases o3.2 with h2 | ⟨g, cp, cur, e, _, rr⟩
    · exact .inl h2
    · exact .inr ⟨g, cp, cur, e, Nat.zero_le _, rr⟩
  have hbl : ∀ y, b = some y → y.block < w.heap.size := fun y e => h.foot _ (h.headG y e).1
  refine ⟨⟨a3, cap3, b, capb, ⟨?_, .inl h.self, cell_set ((b3.cell (p := ⟨r, 0, none⟩) hrl).trans h.c0) (by omega), cell_set ((b3.cell (p := ⟨r, 1, none⟩) hrl).trans h.c1) (by omega), World.cell?_setCell_same _ _ _ c2, cell_set ((b3.cell (p := ⟨r, 3, none⟩) hrl).trans h.c3) (by omega), ?_, ?_, ?_, ?_, ?_, fun ad e => ⟨.inl (h.headG ad e).1, (h.headG ad e).2⟩, ?_, hf⟩⟩, S12⟩
  · rintro k (e | e)
    · exact Nat.lt_of_lt_of_le (h.foot k e) S12.size
    · exact Nat.lt_of_lt_of_le e.2 S2.size
  · rw [World.frozen?_setCell]; exact (b3.frozen (p := ⟨r, 2, none⟩) hrl).trans h.f2
  · rw [World.frozen?_setCell]; exact (b3.frozen (p := ⟨r, 3, none⟩) hrl).trans h.f3
  · exact owns_lift o0 S2 (fun ad e => by have := (hob ad e).1; show ¬ ad.block = r; omega)
  · exact owns_lift (owns_below h.rowG b3) S2 (fun ad e => (h.headG ad e).2)
  · intro ad e
    exact ⟨.inr (hob ad e), by have := (hob ad e).1; omega⟩
  · intro x y ex ey
    have h1 := (hob x ex).1
    have h2 := hbl y ey
    omega
section
variable {w : World} {F : Nat → Prop} {r n q : Nat} {L G : List Pk}
set_option maxHeartbeats 8000000 in
set_option maxRecDepth 100000 in
theorem rhNext_any (h : HAt w F r n q L G) (z : Int) {x : Pk} {b : Bool} (hx : Hst.hdk (Hst.lane L z) = x) (hb : (!(Hst.lane L z).isEmpty) = b) {L' : List Pk} (hL' : Hst.drop1 L z = L') :
    Calls Try.prog 16 #[.pointer (some ⟨r, 0, none⟩), .int .i64 z] w fun e w' => e = .returned (.tuple #[.agg #[.int .i64 x.s, .int .i64 x.d, .int .i64 x.l, .int .u32 x.b], .bool b]) ∧ ∃ F', HAt w' F' r n q L' G ∧ Grows F w F' w' := by
  have hF := h.fit.drop1 z
  rw [hL'] at hF
  have HFt : Hid (Hst.Fits n q L') := hF
  have hl24 := h.fit.len
  obtain ⟨a, cap, bb, capb, h⟩ := h
  obtain ⟨m, hm⟩ : ∃ m, L.length = m := ⟨_, rfl⟩
  have HM : Hid (L.length = m) := hm
  rw [hm] at hl24
  have hrl := h.foot r h.self
  obtain ⟨W, hW⟩ : ∃ W, W = w.alloc (.cells #[.int .i64 0, .int .i64 0, .int .i64 0, .int .u32 0] 27) := ⟨_, rfl⟩
  have bel : Below w.heap.size w W := by rw [hW]; exact fresh _ _
  have HB : Hid (Below w.heap.size w W) := bel
  have HR : Hid (HIn w F r n q L G a cap bb capb) := h
  have H4 : Hid (Four W w.heap.size) := by rw [hW]; exact Four.new _ _ _ _ _ _
  have HXb : Hid (Hst.hdk (Hst.lane L z) = x ∧ (!(Hst.lane L z).isEmpty) = b ∧ Hst.drop1 L z = L') := ⟨hx, hb, hL'⟩
  have k2 : W.cell? ⟨r, 2, none⟩ = some (.slice a m cap) := by rw [← hm]; exact (bel.cell (p := ⟨r, 2, none⟩) hrl).trans h.c2
  have HK2 : Hid (W.cell? ⟨r, 2, none⟩ = some (.slice a m cap)) := k2
  have hrw : ¬ r = w.heap.size := by omega
  have hrw2 : ¬ w.heap.size = r := by omega
  clear h hm bel hF hx hb hL'
  go_enter Try.func16, Try.ntmps16
  go_wp2_with fail
  rw [← hW]
  clear hW k2
  go_loopw [6] (fun i wr => ∃ k : Nat, k ≤ m ∧ i = .int .i64 k ∧ (∀ (j : Nat) (y : Pk), j < k → L[j]? = some y → y.l ≠ z) ∧ wr = W) (fun i _ => m - (intOf i).toNat)
  case atStart => exact ⟨0, Nat.zero_le _, rfl, fun j y hj => by omega, rfl⟩
  case round =>
    obtain ⟨k, hk, rfl, hno, rfl⟩ := hrel
    have HN : Hid (∀ (j : Nat) (y : Pk), j < k → L[j]? = some y → y.l ≠ z) := hno
    clear hno
    have k2 := HK2.out
    by_cases hkm : k < m
    · have hkI : (k : Int) < (m : Int) := by omega
      obtain ⟨y, hy⟩ : ∃ y, L[k]? = some y := ⟨_, List.getElem?_eq_getElem (by have := HM.out; omega)⟩
      obtain ⟨g, ea, hgl, q0, q1, q2, q3⟩ := (HR.out.below HB.out).at hy
      subst ea
      have HY : Hid (L[k]? = some y) := hy
      clear hy
      by_cases hyz : y.l = z
      · have g1 : (y.l == z) = true := by simpa using hyz
        obtain ⟨e1, e2⟩ := Hst.first_at HY.out hyz HN.out
        have HE : Hid (L.take k ++ L.drop (k + 1) = L') := by show _ = _; rw [← e2]; exact HXb.out.2.2
        obtain rfl : b = true := by rw [← HXb.out.2.1, e1]; rfl
        obtain rfl : x = y := by rw [← HXb.out.1, e1]; rfl
        have hlen : L'.length = m - 1 := by
          rw [← HE.out, List.length_append, List.length_take, List.length_drop]
          have := HM.out
          omega
        have HLn : Hid (L'.length = m - 1) := hlen
        clear hyz e1 e2 hlen
        have hcp := owns_cap (HR.out.rowL)
        rw [HM.out] at hcp
        obtain ⟨hcap, hcm⟩ := hcp
        unfold maxLen at hcm
        have hi3 : (k : Int) ≤ cap := by omega
        have hi4 : (k : Int) + 1 ≤ m := by omega
        have hi5 : (m : Int) ≤ cap := by omega
        have hmx : cap ≤ 9223372036854775807 := by omega
        obtain ⟨U, hU⟩ : ∃ U, U = wr.alloc (.cells #[.int .i64 x.s, .int .i64 x.d, .int .i64 x.l, .int .u32 x.b] 27) := ⟨_, rfl⟩
        have HU : Hid (Below w.heap.size w U) := by rw [hU]; exact later HB.out (fresh _ _)
        have HX : Hid (PkAt U wr.heap.size 0 x) := by rw [hU]; exact PkAt.new wr x
        have H4U : Hid (Four U w.heap.size) := by rw [hU]; exact H4.out.below (fresh _ _)
        have hgU : g < w.heap.size := HR.out.foot g (HR.out.headL _ rfl).1
        have hrW : r < wr.heap.size := cell_lt k2
        go_upto_region 6 with fail
        rw [← hU]
        have hc3U : U.cell? ⟨r, 2, none⟩ = some (.slice (some ⟨g, 0, none⟩) m cap) := by
          have h1 := (HR.out.below HU.out).c2
          rw [HM.out] at h1
          exact h1
        have hf3U : U.frozen? ⟨r, 2, none⟩ = false := (HR.out.below HU.out).f2
        have hwU : w.heap.size < U.heap.size := H4U.out.lt
        clear hU k2 q0 q1 q2 q3 hcm HK2
        by_cases hce : cap = k + 1
        · subst hce
          obtain rfl : m = k + 1 := by omega
          go_wp2_with (first
            | (at_builtin; refine wpList_append_pks rfl _ (.tmp 41) rfl U.heap.size (Nat.le_refl _) none 0 0 [] rfl (World.ownsRow_nil _ _ _ _) ⟨g, 0, none⟩ k (k + 1) (L.take k) rfl (by rw [List.length_take, HM.out]; omega) (fun i v hi => by rw [Addr.add_lit, Nat.zero_add]; exact (HR.out.below HU.out).cells i v (kcells_take hi)) (by omega) k (by omega) ?_; intro a2 cap2 u2 o2 b2; have t3 : u2.cell? ⟨r, 2, none⟩ = some (.slice (some ⟨g, 0, none⟩) (k + 1) (k + 1)) := (b2.cell (p := ⟨r, 2, none⟩) (cell_lt hc3U)).trans hc3U)
            | (at_builtin; refine wpList_append_pks rfl _ (.tmp 50) rfl U.heap.size b2.size a2 k cap2 ([] ++ L.take k) rfl o2 ⟨g, 0, none⟩ 0 _ (L.drop (k + 1)) rfl (by have := HM.out; rw [List.length_drop]; omega) (fun i v hi => by have e0 : L.drop (k + 1) = [] := List.drop_eq_nil_of_le (Nat.le_of_eq HM.out); rw [e0] at hi; simp [kcells] at hi) (by omega) (k + 1 - 1) (by omega) ?_; intro a3 cap3 u3 o3 b3; have HB3 : Below U.heap.size U u3 := b2.trans b3; have s3 : u3.cell? ⟨r, 2, none⟩ = some (.slice (some ⟨g, 0, none⟩) (k + 1) (k + 1)) := (b3.cell (p := ⟨r, 2, none⟩) (cell_lt hc3U)).trans t3; have s4 : u3.frozen? ⟨r, 2, none⟩ = false := (HB3.frozen (p := ⟨r, 2, none⟩) (cell_lt hc3U)).trans hf3U; obtain ⟨x0, x1, x2, x3⟩ := HX.out.below HB3; obtain ⟨⟨v0, r0⟩, ⟨v1, r1⟩, ⟨v2, r2⟩, ⟨v3, r3⟩, f0, f1, f2, f3⟩ := H4U.out.below HB3))
          rw [List.nil_append, HE.out] at o3
          obtain ⟨hF, hG⟩ := next_ref HR.out HLn.out HFt.out (later HU.out HB3) HU.out.size o3
          have s5 := lay4_sans (u3.setCell ⟨r, 2, none⟩ (.slice a3 (k + 1 - 1) cap3)) w.heap.size 0 x
          exact bodyPost_ret (v := .tuple #[.agg #[.int .i64 x.s, .int .i64 x.d, .int .i64 x.l, .int .u32 x.b], .bool true]) (by simp [results, Try.results16, go_sem, r0, r1, r2, r3]) rfl ⟨rfl, fun j => F j ∨ (U.heap.size ≤ j ∧ j < u3.heap.size), hF.sans s5 (fun j hj e => hj.elim (fun h1 => by have := HR.out.foot j h1; omega) (fun h1 => by omega)), hG.trans s5 (fun j e => .inr (by omega)), fun j hj => hj.imp id (fun e => by omega)⟩
        · have hce' : ¬ (cap : Int) = (k : Int) + 1 := by omega
          go_wp2_with (first
            | (at_builtin; refine wpList_append_pks rfl _ (.tmp 41) rfl U.heap.size (Nat.le_refl _) none 0 0 [] rfl (World.ownsRow_nil _ _ _ _) ⟨g, 0, none⟩ k cap (L.take k) rfl (by rw [List.length_take, HM.out]; omega) (fun i v hi => by rw [Addr.add_lit, Nat.zero_add]; exact (HR.out.below HU.out).cells i v (kcells_take hi)) (by omega) k (by omega) ?_; intro a2 cap2 u2 o2 b2; have t3 : u2.cell? ⟨r, 2, none⟩ = some (.slice (some ⟨g, 0, none⟩) m cap) := (b2.cell (p := ⟨r, 2, none⟩) (cell_lt hc3U)).trans hc3U)
            | (at_builtin; refine wpList_append_pks rfl _ (.tmp 50) rfl U.heap.size b2.size a2 k cap2 ([] ++ L.take k) rfl o2 ⟨g, (k + 1) * 4, none⟩ (m - (k + 1)) _ (L.drop (k + 1)) rfl (by have := HM.out; rw [List.length_drop]; omega) (fun i v hi => by rw [Addr.add_lit]; exact (b2.cell (p := ⟨g, (k + 1) * 4 + i, none⟩) (Nat.lt_of_lt_of_le hgU HU.out.size)).trans ((HR.out.below HU.out).cells _ v (kcells_drop (by have := HM.out; omega) hi))) (by omega) (m - 1) (by omega) ?_; intro a3 cap3 u3 o3 b3; have HB3 : Below U.heap.size U u3 := b2.trans b3; have s3 : u3.cell? ⟨r, 2, none⟩ = some (.slice (some ⟨g, 0, none⟩) m cap) := (b3.cell (p := ⟨r, 2, none⟩) (cell_lt hc3U)).trans t3; have s4 : u3.frozen? ⟨r, 2, none⟩ = false := (HB3.frozen (p := ⟨r, 2, none⟩) (cell_lt hc3U)).trans hf3U; obtain ⟨x0, x1, x2, x3⟩ := HX.out.below HB3; obtain ⟨⟨v0, r0⟩, ⟨v1, r1⟩, ⟨v2, r2⟩, ⟨v3, r3⟩, f0, f1, f2, f3⟩ := H4U.out.below HB3))
          rw [List.nil_append, HE.out] at o3
          obtain ⟨hF, hG⟩ := next_ref HR.out HLn.out HFt.out (later HU.out HB3) HU.out.size o3
          have s5 := lay4_sans (u3.setCell ⟨r, 2, none⟩ (.slice a3 (m - 1) cap3)) w.heap.size 0 x
          exact bodyPost_ret (v := .tuple #[.agg #[.int .i64 x.s, .int .i64 x.d, .int .i64 x.l, .int .u32 x.b], .bool true]) (by simp [results, Try.results16, go_sem, r0, r1, r2, r3]) rfl ⟨rfl, fun j => F j ∨ (U.heap.size ≤ j ∧ j < u3.heap.size), hF.sans s5 (fun j hj e => hj.elim (fun h1 => by have := HR.out.foot j h1; omega) (fun h1 => by omega)), hG.trans s5 (fun j e => .inr (by omega)), fun j hj => hj.imp id (fun e => by omega)⟩
      · have g1 : (y.l == z) = false := by simpa using hyz
        have HN2 : Hid (∀ (j : Nat) (y : Pk), j < k + 1 → L[j]? = some y → y.l ≠ z) := fun j y' hj hy' => by
          by_cases e : j = k
          · subst e
            rw [HY.out] at hy'
            cases hy'
            exact hyz
          · exact HN.out j y' (by omega) hy'
        clear hyz
        go_wp2_with fail
        go_roundw
        case rel => first | exact ⟨k + 1, by omega, by go_num, HN2.out, rfl⟩ | exact ⟨k + 1, by omega, by go_num, HN2.out, trivial⟩ | ((repeat apply Exists.intro); exact ⟨⟨k + 1, by omega, by go_num, HN2.out, rfl⟩, rfl⟩)
        case measure => simp [intOf]; omega
    · obtain rfl : k = m := by omega
      obtain ⟨e1, e2⟩ := Hst.first_no (L := L) (k := z) (fun j y hj hy => HN.out j y (by have := HM.out; omega) hy)
      obtain rfl : b = false := by rw [← HXb.out.2.1, e1]; rfl
      obtain rfl : x = zpk := by rw [← HXb.out.1, e1]; rfl
      have HE : Hid (L = L') := by show _ = _; rw [← e2]; exact HXb.out.2.2
      obtain ⟨⟨v0, r0⟩, ⟨v1, r1⟩, ⟨v2, r2⟩, ⟨v3, r3⟩, f0, f1, f2, f3⟩ := H4.out
      clear e1 e2
      go_wp2_with fail
      have s5 := lay4_sans wr w.heap.size 0 zpk
      have HF := (HR.out.below HB.out).sans s5 (fun j hj e => by have := HR.out.foot j hj; omega)
      rw [HE.out] at HF
      exact bodyPost_ret (v := .tuple #[.agg #[.int .i64 0, .int .i64 0, .int .i64 0, .int .u32 0], .bool false]) (by simp [results, Try.results16, go_sem, r0, r1, r2, r3]) rfl ⟨rfl, F, ⟨a, cap, bb, capb, HF⟩, (Sans.of_below HB.out).trans s5 (fun j e => .inr (by omega)), fun j hj => .inl hj⟩
end
end Go.Proofs.Ytfldhjeeoaplfaa
