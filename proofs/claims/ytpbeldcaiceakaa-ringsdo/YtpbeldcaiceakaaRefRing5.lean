/-
  The document's own rings (package shunterref08): Pop on the call's own. Conditions: none but that the rings are such.
-/
import Derived.Test.YtpbeldcaiceakaaRefRing4
import Derived.Deep.DeepCutAuto
namespace Go.Proofs.Ytpbeldcaiceakaa
open Go.ChangeShapes Go.WideShapes Go.ChangeAt Go.RowKit
set_option linter.unusedVariables false

/-- append of entries to a slice of entries that is new since B -/
theorem wpList_append_ents {w : World} {ops : Array Oper} {rest : List Oper} {o : Oper} {a : Act} {Q : Exit → Act → World → Prop} (hgd : o.guard = none) (s x : Operand)
    (ho : o.op = .call { callee := .builtin .append, args := #[s, x], argTypes := #[62, 62] })
    (B : Nat) (hB : B ≤ w.heap.size) (a1 : Option Addr) (n1 cap1 : Nat) (ls1 : List Ent) (hs : a.eval s = .slice a1 n1 cap1) (h1 : w.ownsRow B 67 7 (.slice a1 n1 cap1) n1 (ecells ls1))
    (ad : Addr) (m c : Nat) (ls2 : List Ent) (hx : a.eval x = .slice (some ad) m c) (hm : ls2.length = m) (h2 : ∀ (j : Nat) (u : Value), (ecells ls2)[j]? = some u → w.cell? (ad.add j) = some u) (hb : n1 + m ≤ 1000) (tot : Nat) (ht : n1 + m = tot)
    (h : ∀ a' cap' w', w'.ownsRow B 67 7 (.slice a' tot cap') tot (ecells (ls1 ++ ls2)) → Below B w w' → wpList Try.prog ops Q rest (a.put o.dst (.slice a' tot cap')) w') : wpList Try.prog ops Q (o :: rest) a w := by
  subst ht
  obtain ⟨i0, hi, hz0, hz1, hz2⟩ := info_parts infoE
  refine wpList_append_own w hgd s x 62 ho B 67 i0 _ 7 56 Try.underlying62 hi hz0 hz1 hz2 rfl (by decide) _ n1 (ecells ls1) hs h1 ad m c (ecells ls2) hx (by rw [ecells_length, hm]) h2 (ecells_one ls2) (by unfold maxLen; omega) (by omega) hB ?_
  intro v' w' hown' hg hnil
  rw [← ecells_append] at hown'
  have hBw : Below B w w' := (Below.refl B w).grown hg hB (fun k hk => (h1.lt k hk).1)
  rcases hown'.2 with ⟨rfl, h0⟩ | ⟨g, cp, cur, rfl, _⟩
  · have := h none 0 w' (by rw [h0] at hown' ⊢; exact hown') hBw
    rw [h0] at this
    exact this
  · exact h (some ⟨g, 0, none⟩) cp w' hown' hBw
theorem RefIn.cells {w : World} {F : Nat → Prop} {r P L n g : Nat} {ls : List Ent} {cap : Nat} (h : RefIn w F r P L n ls (some ⟨g, 0, none⟩) cap) : ∀ (j : Nat) (u : Value), (ecells ls)[j]? = some u → w.cell? ⟨g, j, none⟩ = some u := by
  intro j u hj
  have hlt := (List.getElem?_eq_some_iff.1 hj).1
  rw [ecells_length] at hlt
  rw [h.row.cellAt j hlt]
  exact hj
theorem ecells_take {ls : List Ent} {k j : Nat} {u : Value} (h : (ecells (ls.take k))[j]? = some u) : (ecells ls)[j]? = some u := by
  have hlt := (List.getElem?_eq_some_iff.1 h).1
  have e : ecells ls = ecells (ls.take k) ++ ecells (ls.drop k) := by rw [← ecells_append, List.take_append_drop]
  rw [e, List.getElem?_append_left hlt]
  exact h
theorem ecells_drop {ls : List Ent} {k j : Nat} {u : Value} (hk : k ≤ ls.length) (h : (ecells (ls.drop k))[j]? = some u) : (ecells ls)[k * 7 + j]? = some u := by
  have e : ecells ls = ecells (ls.take k) ++ ecells (ls.drop k) := by rw [← ecells_append, List.take_append_drop]
  have hl : (ecells (ls.take k)).length = k * 7 := by rw [ecells_length, List.length_take, Nat.min_eq_left hk]
  rw [e, List.getElem?_append_right (by omega), hl, show k * 7 + j - k * 7 = j by omega]
  exact h
theorem popped_ref {w u3 : World} {F : Nat → Prop} {r P L n m j : Nat} {ls : List Ent} {a a3 : Option Addr} {cap cap3 : Nat} (h : RefIn w F r P L n ls a cap) (hm : ls.length = m) (hj : j < m) (b3 : Below w.heap.size w u3) {B : Nat} (hB : w.heap.size ≤ B)
    (o3 : u3.ownsRow B 67 7 (.slice a3 (m - 1) cap3) (m - 1) (ecells (ls.take j ++ ls.drop (j + 1)))) :
    RefAt (u3.setCell ⟨r, 3, none⟩ (.slice a3 (m - 1) cap3)) (fun k => F k ∨ (B ≤ k ∧ k < u3.heap.size)) r P L n (ls.eraseIdx j) ∧ Sans F w (u3.setCell ⟨r, 3, none⟩ (.slice a3 (m - 1) cap3)) := by
  have hlen : (ls.eraseIdx j).length = m - 1 := by rw [List.length_eraseIdx, if_pos (by omega), hm]
  rw [← List.eraseIdx_eq_take_drop_succ] at o3
  have hrl : r < w.heap.size := h.foot r h.self
  have S2 : Sans (fun k => k = r) u3 (u3.setCell ⟨r, 3, none⟩ (.slice a3 (m - 1) cap3)) := Sans.of_set u3 ⟨r, 3, none⟩ _ rfl
  have S12 : Sans F w (u3.setCell ⟨r, 3, none⟩ (.slice a3 (m - 1) cap3)) := (Sans.of_below b3).then (S2.mono (fun k e => by rw [e]; exact h.self))
  have hob : ∀ ad, a3 = some ad → B ≤ ad.block ∧ ad.block < u3.heap.size := fun ad e => o3.lt ad.block (by rw [e]; rfl)
  have c3 : u3.cell? ⟨r, 3, none⟩ = some (.slice a ls.length cap) := (b3.cell (p := ⟨r, 3, none⟩) hrl).trans h.c3
  have o0 : u3.ownsRow 0 67 7 (.slice a3 (m - 1) cap3) (m - 1) (ecells (ls.eraseIdx j)) := by
    refine ⟨o3.1, ?_⟩
    rcases o3.2 with h2 | ⟨g, cp, cur, e, _, rr⟩
    · exact .inl h2
    · exact .inr ⟨g, cp, cur, e, Nat.zero_le _, rr⟩
  refine ⟨⟨a3, cap3, ⟨?_, .inl h.self, cell_set ((b3.cell (p := ⟨r, 0, none⟩) hrl).trans h.c0) (by omega), cell_set ((b3.cell (p := ⟨r, 1, none⟩) hrl).trans h.c1) (by omega), cell_set ((b3.cell (p := ⟨r, 2, none⟩) hrl).trans h.c2) (by omega), ?_, ?_, ?_, ?_, ?_, h.n2, h.p2⟩⟩, S12⟩
  · rintro k (e | e)
    · exact Nat.lt_of_lt_of_le (h.foot k e) S12.size
    · exact Nat.lt_of_lt_of_le e.2 S2.size
  · rw [hlen]; exact World.cell?_setCell_same _ _ _ c3
  · rw [World.frozen?_setCell]; exact (b3.frozen (p := ⟨r, 3, none⟩) hrl).trans h.f3
  · rw [hlen]; exact owns_lift o0 S2 (fun ad e => by have := (hob ad e).1; show ¬ ad.block = r; omega)
  · intro ad e
    exact ⟨.inr (hob ad e), by have := (hob ad e).1; omega⟩
  · rw [hlen]; have := h.len; omega
section
variable {w : World} {F : Nat → Prop} {r P L n : Nat} {ls : List Ent}
set_option maxHeartbeats 2000000 in
set_option maxRecDepth 100000 in
theorem refPop_none (h : RefAt w F r P L n ls) (i o l : Int) (hf : fidx ls (i, o, l) = none) :
    Calls Try.prog 26 #[.pointer (some ⟨r, 0, none⟩), .int .i64 i, .int .i64 o, .int .i64 l] w fun e w' => e = .returned (.tuple #[.agg #[.int .i64 0, .int .i64 0, .int .i64 0, .int .u32 0], .bool false]) ∧ Below w.heap.size w w' := by
  obtain ⟨a, cap, h⟩ := h
  have HR : Hid (RefIn w F r P L n ls a cap) := h
  have HF : Hid (fz ls (i, o, l) = -1) := fz_none hf
  clear h hf
  go_enter Try.func26, Try.ntmps26
  go_wp2_with fail
  refine (refFirst_any ⟨a, cap, HR.out.below (fresh _ _)⟩ i o l (-1) HF.out).mono ?_
  rintro e u ⟨rfl, rfl⟩
  go_wp2_with fail
  exact bodyPost_ret (v := .tuple #[.agg #[.int .i64 0, .int .i64 0, .int .i64 0, .int .u32 0], .bool false]) (by simp [results, Try.results26, go_sem]) rfl ⟨rfl, fresh _ _⟩
set_option maxHeartbeats 4000000 in
set_option maxRecDepth 100000 in
theorem refPop_some (h : RefAt w F r P L n ls) (i o l : Int) (j : Nat) (y : Pk) (hf : fidx ls (i, o, l) = some j) (hj : ls[j]? = some ((i, o, l), y)) :
    Calls Try.prog 26 #[.pointer (some ⟨r, 0, none⟩), .int .i64 i, .int .i64 o, .int .i64 l] w fun e w' => e = .returned (.tuple #[.agg #[.int .i64 y.s, .int .i64 y.d, .int .i64 y.l, .int .u32 y.b], .bool true]) ∧ ∃ F', RefAt w' F' r P L n (ls.eraseIdx j) ∧ Grows F w F' w' := by
  obtain ⟨a, cap, h⟩ := h
  obtain ⟨g, hag, hgl, hcap, hcm, _, _, _, q3, q4, q5, q6⟩ := h.at hj
  subst hag
  have HR : Hid (RefIn w F r P L n ls (some ⟨g, 0, none⟩) cap) := h
  have HF : Hid (fz ls (i, o, l) = j) := fz_some hf
  have hjl := fidx_lt hf
  have hc3 := h.c3
  have hf3 := h.f3
  obtain ⟨m, hm⟩ : ∃ m, ls.length = m := ⟨_, rfl⟩
  have HM : Hid (ls.length = m) := hm
  rw [hm] at hc3 hjl hcap
  have hm2 : m ≤ 200 := by have := h.len; have := h.n2; omega
  have hjl' : (j : Int) < m := by omega
  have hrl := h.foot r h.self
  unfold maxLen at hcm
  obtain ⟨W, hW⟩ : ∃ W, W = w.alloc (.cells #[.int .i64 0, .int .i64 0, .int .i64 0, .int .u32 0] 27) := ⟨_, rfl⟩
  have bel : Below w.heap.size w W := by rw [hW]; exact fresh _ _
  have k3 : W.cell? ⟨r, 3, none⟩ = some (.slice (some ⟨g, 0, none⟩) m cap) := (bel.cell (p := ⟨r, 3, none⟩) hrl).trans hc3
  have p0 : W.cell? ⟨g, j * 7 + 3, none⟩ = some (.int .i64 y.s) := (bel.cell (p := ⟨g, j * 7 + 3, none⟩) hgl).trans q3
  have p1 : W.cell? ⟨g, j * 7 + 3 + 1, none⟩ = some (.int .i64 y.d) := (bel.cell (p := ⟨g, j * 7 + 3 + 1, none⟩) hgl).trans q4
  have p2 : W.cell? ⟨g, j * 7 + 3 + 2, none⟩ = some (.int .i64 y.l) := (bel.cell (p := ⟨g, j * 7 + 3 + 2, none⟩) hgl).trans q5
  have p3 : W.cell? ⟨g, j * 7 + 3 + 3, none⟩ = some (.int .u32 y.b) := (bel.cell (p := ⟨g, j * 7 + 3 + 3, none⟩) hgl).trans q6
  have H4 : Hid (Four W w.heap.size) := by rw [hW]; exact Four.new _ _ _ _ _ _
  have hrW : r < W.heap.size := cell_lt k3
  have hb1 : Hid (Below w.heap.size w W) := bel
  obtain ⟨U, hU⟩ : ∃ U, U = W.alloc (.cells #[.int .i64 y.s, .int .i64 y.d, .int .i64 y.l, .int .u32 y.b] 27) := ⟨_, rfl⟩
  have HU : Hid (Below w.heap.size w U) := by rw [hU]; exact later bel (fresh _ _)
  have HX : Hid (PkAt U W.heap.size 0 y) := by rw [hU]; exact PkAt.new W y
  have H4U : Hid (Four U w.heap.size) := by rw [hU]; exact H4.out.below (fresh _ _)
  have hc3U : U.cell? ⟨r, 3, none⟩ = some (.slice (some ⟨g, 0, none⟩) m cap) := (HU.out.cell (p := ⟨r, 3, none⟩) hrl).trans hc3
  have hi3 : (j : Int) ≤ cap := by omega
  have hi4 : (j : Int) + 1 ≤ m := by omega
  have hi5 : (m : Int) ≤ cap := by omega
  clear h hf hj q3 q4 q5 q6 hm bel hc3
  go_enter Try.func26, Try.ntmps26
  go_wp2_with fail
  rw [← hW]
  refine (refFirst_any ⟨_, cap, HR.out.below hb1.out⟩ i o l j HF.out).mono ?_
  rintro e u0 ⟨rfl, hu0⟩
  have hu0 := hu0.symm
  subst hu0
  clear hW
  go_upto_region 6 with fail
  rw [← hU]
  have hf3U : U.frozen? ⟨r, 3, none⟩ = false := (HU.out.frozen (p := ⟨r, 3, none⟩) hrl).trans hf3
  have hrne : ¬ w.heap.size = r := by omega
  have hrne2 : ¬ r = w.heap.size := by omega
  have hwU : w.heap.size < U.heap.size := H4U.out.lt
  clear hU k3 p0 p1 p2 p3 hf3
  have hmx : cap ≤ 9223372036854775807 := by omega
  clear hcm
  by_cases hce : cap = j + 1
  · subst hce
    obtain rfl : m = j + 1 := by omega
    go_wp2_with (first
      | (at_builtin; refine wpList_append_ents rfl _ (.tmp 35) rfl U.heap.size (Nat.le_refl _) none 0 0 [] rfl (World.ownsRow_nil _ _ _ _) ⟨g, 0, none⟩ j (j + 1) (ls.take j) rfl (by rw [List.length_take, HM.out]; omega) (fun k v hk => by rw [Addr.add_lit, Nat.zero_add]; exact (HR.out.below HU.out).cells k v (ecells_take hk)) (by omega) j (by omega) ?_; intro a2 cap2 u2 o2 b2; have t3 : u2.cell? ⟨r, 3, none⟩ = some (.slice (some ⟨g, 0, none⟩) (j + 1) (j + 1)) := (b2.cell (p := ⟨r, 3, none⟩) (cell_lt hc3U)).trans hc3U)
      | (at_builtin; refine wpList_append_ents rfl _ (.tmp 44) rfl U.heap.size b2.size a2 j cap2 ([] ++ ls.take j) rfl o2 ⟨g, 0, none⟩ 0 _ (ls.drop (j + 1)) rfl (by have := HM.out; rw [List.length_drop]; omega) (fun k v hk => by have e0 : ls.drop (j + 1) = [] := List.drop_eq_nil_of_le (Nat.le_of_eq HM.out); rw [e0] at hk; simp [ecells] at hk) (by omega) (j + 1 - 1) (by omega) ?_; intro a3 cap3 u3 o3 b3; have HB3 : Below U.heap.size U u3 := b2.trans b3; have s3 : u3.cell? ⟨r, 3, none⟩ = some (.slice (some ⟨g, 0, none⟩) (j + 1) (j + 1)) := (b3.cell (p := ⟨r, 3, none⟩) (cell_lt hc3U)).trans t3; have s4 : u3.frozen? ⟨r, 3, none⟩ = false := (HB3.frozen (p := ⟨r, 3, none⟩) (cell_lt hc3U)).trans hf3U; obtain ⟨x0, x1, x2, x3⟩ := HX.out.below HB3; obtain ⟨⟨v0, r0⟩, ⟨v1, r1⟩, ⟨v2, r2⟩, ⟨v3, r3⟩, f0, f1, f2, f3⟩ := H4U.out.below HB3))
    obtain ⟨hF, hG⟩ := popped_ref HR.out HM.out hjl (later HU.out HB3) HU.out.size o3
    have s5 := lay4_sans (u3.setCell ⟨r, 3, none⟩ (.slice a3 (j + 1 - 1) cap3)) w.heap.size 0 y
    exact bodyPost_ret (v := .tuple #[.agg #[.int .i64 y.s, .int .i64 y.d, .int .i64 y.l, .int .u32 y.b], .bool true]) (by simp [results, Try.results26, go_sem, r0, r1, r2, r3]) rfl ⟨rfl, fun k => F k ∨ (U.heap.size ≤ k ∧ k < u3.heap.size), hF.sans s5 (fun k hk e => hk.elim (fun h1 => by have := HR.out.foot k h1; omega) (fun h1 => by omega)), hG.trans s5 (fun k e => .inr (by omega)), fun k hk => hk.imp id (fun e => by omega)⟩
  · have hce' : ¬ (cap : Int) = (j : Int) + 1 := by omega
    go_wp2_with (first
      | (at_builtin; refine wpList_append_ents rfl _ (.tmp 35) rfl U.heap.size (Nat.le_refl _) none 0 0 [] rfl (World.ownsRow_nil _ _ _ _) ⟨g, 0, none⟩ j cap (ls.take j) rfl (by rw [List.length_take, HM.out]; omega) (fun k v hk => by rw [Addr.add_lit, Nat.zero_add]; exact (HR.out.below HU.out).cells k v (ecells_take hk)) (by omega) j (by omega) ?_; intro a2 cap2 u2 o2 b2; have t3 : u2.cell? ⟨r, 3, none⟩ = some (.slice (some ⟨g, 0, none⟩) m cap) := (b2.cell (p := ⟨r, 3, none⟩) (cell_lt hc3U)).trans hc3U)
      | (at_builtin; refine wpList_append_ents rfl _ (.tmp 44) rfl U.heap.size b2.size a2 j cap2 ([] ++ ls.take j) rfl o2 ⟨g, (j + 1) * 7, none⟩ (m - (j + 1)) _ (ls.drop (j + 1)) rfl (by have := HM.out; rw [List.length_drop]; omega) (fun k v hk => by rw [Addr.add_lit]; exact (b2.cell (p := ⟨g, (j + 1) * 7 + k, none⟩) (Nat.lt_of_lt_of_le hgl HU.out.size)).trans ((HR.out.below HU.out).cells _ v (ecells_drop (by have := HM.out; omega) hk))) (by omega) (m - 1) (by omega) ?_; intro a3 cap3 u3 o3 b3; have HB3 : Below U.heap.size U u3 := b2.trans b3; have s3 : u3.cell? ⟨r, 3, none⟩ = some (.slice (some ⟨g, 0, none⟩) m cap) := (b3.cell (p := ⟨r, 3, none⟩) (cell_lt hc3U)).trans t3; have s4 : u3.frozen? ⟨r, 3, none⟩ = false := (HB3.frozen (p := ⟨r, 3, none⟩) (cell_lt hc3U)).trans hf3U; obtain ⟨x0, x1, x2, x3⟩ := HX.out.below HB3; obtain ⟨⟨v0, r0⟩, ⟨v1, r1⟩, ⟨v2, r2⟩, ⟨v3, r3⟩, f0, f1, f2, f3⟩ := H4U.out.below HB3))
    obtain ⟨hF, hG⟩ := popped_ref HR.out HM.out hjl (later HU.out HB3) HU.out.size o3
    have s5 := lay4_sans (u3.setCell ⟨r, 3, none⟩ (.slice a3 (m - 1) cap3)) w.heap.size 0 y
    exact bodyPost_ret (v := .tuple #[.agg #[.int .i64 y.s, .int .i64 y.d, .int .i64 y.l, .int .u32 y.b], .bool true]) (by simp [results, Try.results26, go_sem, r0, r1, r2, r3]) rfl ⟨rfl, fun k => F k ∨ (U.heap.size ≤ k ∧ k < u3.heap.size), hF.sans s5 (fun k hk e => hk.elim (fun h1 => by have := HR.out.foot k h1; omega) (fun h1 => by omega)), hG.trans s5 (fun k e => .inr (by omega)), fun k hk => hk.imp id (fun e => by omega)⟩
end
end Go.Proofs.Ytpbeldcaiceakaa
