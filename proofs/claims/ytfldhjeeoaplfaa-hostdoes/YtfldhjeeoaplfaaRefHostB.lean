/-
  The document's own host (package shunterref15): Put, Eject on the call's own. Conditions: none but that the host is such.
-/
import Derived.Test.YtfldhjeeoaplfaaRefHostA
import Derived.Deep.AppendLies
import Derived.Deep.RegionWith
namespace Go.Proofs.Ytfldhjeeoaplfaa
open Go.ChangeShapes Go.WideShapes Go.ChangeAt Go.RowKit
set_option linter.unusedVariables false

/-- one more in the row that field 2 leads to -/
theorem put_ref {w U u2 : World} {F : Nat → Prop} {r n q m g cap2 H : Nat} {L G : List Pk} {a b : Option Addr} {cap capb : Nat} {x : Pk} (h : HIn w F r n q L G a cap b capb) (hm : L.length = m) (hf : Hst.Fits n q (L ++ [x])) (hb : Below w.heap.size w U)
    (hown : u2.ownsRow 0 27 4 (.slice (some ⟨g, 0, none⟩) (m + 1) cap2) (m + 1) (kcells L ++ [.int .i64 x.s, .int .i64 x.d, .int .i64 x.l, .int .u32 x.b])) (hg : U.grownBy u2 (Value.slice a m cap).ownBlock)
    (hat : (Value.slice a m cap).ownBlock = some g ∨ g = H + 1) (hc : u2.cell? ⟨r, 2, none⟩ = some (.slice a m cap)) (hH : w.heap.size ≤ H) :
    ∃ F', HAt (u2.setCell ⟨r, 2, none⟩ (.slice (some ⟨g, 0, none⟩) (m + 1) cap2)) F' r n q (L ++ [x]) G ∧ Grows F w F' (u2.setCell ⟨r, 2, none⟩ (.slice (some ⟨g, 0, none⟩) (m + 1) cap2)) := by
  have hlen : (L ++ [x]).length = m + 1 := by rw [List.length_append, hm]; rfl
  have hob : ∀ k, (Value.slice a m cap).ownBlock = some k → F k ∧ k ≠ r ∧ ∀ y, b = some y → k ≠ y.block := by
    intro k e
    cases a with
    | none => simp [Value.ownBlock] at e
    | some ad => simp only [Value.ownBlock, Option.some.injEq] at e; rw [← e]; exact ⟨(h.headL ad rfl).1, (h.headL ad rfl).2, fun y hy => h.apart ad y rfl hy⟩
  have hrl : r < w.heap.size := h.foot r h.self
  have hgr : g ≠ r := hat.elim (fun e => (hob g e).2.1) (fun e => by omega)
  have S1 : Sans F w u2 := (Sans.of_below hb).then (Sans.of_grown hg (fun k e => (hob k e).1))
  have S2 : Sans (fun k => k = r) u2 (u2.setCell ⟨r, 2, none⟩ (.slice (some ⟨g, 0, none⟩) (m + 1) cap2)) := Sans.of_set u2 ⟨r, 2, none⟩ _ rfl
  have S12 : Sans F w (u2.setCell ⟨r, 2, none⟩ (.slice (some ⟨g, 0, none⟩) (m + 1) cap2)) := S1.then (S2.mono (fun k e => by rw [e]; exact h.self))
  have hgl : g < u2.heap.size := (hown.lt g rfl).2
  have SG : Sans (fun k => (Value.slice a m cap).ownBlock = some k) U u2 := Sans.of_grown hg (fun k e => e)
  have old : ∀ j, u2.cell? ⟨r, j, none⟩ = w.cell? ⟨r, j, none⟩ := fun j => (SG.cell (p := ⟨r, j, none⟩) (Nat.lt_of_lt_of_le hrl hb.size) (fun e => (hob r e).2.1 rfl)).trans (hb.cell (p := ⟨r, j, none⟩) hrl)
  have oldf : ∀ j, u2.frozen? ⟨r, j, none⟩ = w.frozen? ⟨r, j, none⟩ := fun j => (SG.frozen (p := ⟨r, j, none⟩) (Nat.lt_of_lt_of_le hrl hb.size) (fun e => (hob r e).2.1 rfl)).trans (hb.frozen (p := ⟨r, j, none⟩) hrl)
  have rg : (u2.setCell ⟨r, 2, none⟩ (.slice (some ⟨g, 0, none⟩) (m + 1) cap2)).ownsRow 0 27 4 (.slice b G.length capb) G.length (kcells G) :=
    owns_lift (owns_lift (owns_below h.rowG hb) SG (fun ad e e2 => (hob ad.block e2).2.2 ad e rfl)) S2 (fun ad e => (h.headG ad e).2)
  have hbl : ∀ y, b = some y → y.block < w.heap.size := fun y e => h.foot _ (h.headG y e).1
  refine ⟨fun k => F k ∨ k = g, ⟨some ⟨g, 0, none⟩, cap2, b, capb, ⟨?_, .inl h.self, cell_set ((old 0).trans h.c0) (by omega), cell_set ((old 1).trans h.c1) (by omega), ?_, cell_set ((old 3).trans h.c3) (by omega), ?_, ?_, ?_, rg, ?_, fun ad e => ⟨.inl (h.headG ad e).1, (h.headG ad e).2⟩, ?_, hf⟩⟩, S12, ?_⟩
  · rintro k (e | e)
    · exact Nat.lt_of_lt_of_le (h.foot k e) S12.size
    · rw [e]; exact Nat.lt_of_lt_of_le hgl S2.size
  · rw [hlen]; exact World.cell?_setCell_same _ _ _ hc
  · rw [World.frozen?_setCell, oldf]; exact h.f2
  · rw [World.frozen?_setCell, oldf]; exact h.f3
  · rw [hlen, kcells_snoc]
    exact owns_at hown S2 hgr
  · intro ad e
    cases e
    exact ⟨.inr rfl, hgr⟩
  · intro x y ex ey
    cases ex
    exact hat.elim (fun e => (hob g e).2.2 y ey) (fun e => by have := hbl y ey; show g ≠ _; omega)
  · rintro k (e | e)
    · exact .inl e
    · exact hat.elim (fun e2 => .inl (by rw [e]; exact (hob g e2).1)) (fun e2 => .inr (by omega))
/-- one more in the row that field 3 leads to -/
theorem eject_ref {w U u2 : World} {F : Nat → Prop} {r n q m g cap2 H : Nat} {L G : List Pk} {a b : Option Addr} {cap capb : Nat} {x : Pk} (h : HIn w F r n q L G a cap b capb) (hm : G.length = m) (hb : Below w.heap.size w U)
    (hown : u2.ownsRow 0 27 4 (.slice (some ⟨g, 0, none⟩) (m + 1) cap2) (m + 1) (kcells G ++ [.int .i64 x.s, .int .i64 x.d, .int .i64 x.l, .int .u32 x.b])) (hg : U.grownBy u2 (Value.slice b m capb).ownBlock)
    (hat : (Value.slice b m capb).ownBlock = some g ∨ g = H + 1) (hc : u2.cell? ⟨r, 3, none⟩ = some (.slice b m capb)) (hH : w.heap.size ≤ H) :
    ∃ F', HAt (u2.setCell ⟨r, 3, none⟩ (.slice (some ⟨g, 0, none⟩) (m + 1) cap2)) F' r n q L (G ++ [x]) ∧ Grows F w F' (u2.setCell ⟨r, 3, none⟩ (.slice (some ⟨g, 0, none⟩) (m + 1) cap2)) := by
  have hlen : (G ++ [x]).length = m + 1 := by rw [List.length_append, hm]; rfl
  have hob : ∀ k, (Value.slice b m capb).ownBlock = some k → F k ∧ k ≠ r ∧ ∀ y, a = some y → y.block ≠ k := by
    intro k e
    cases b with
    | none => simp [Value.ownBlock] at e
    | some ad => simp only [Value.ownBlock, Option.some.injEq] at e; rw [← e]; exact ⟨(h.headG ad rfl).1, (h.headG ad rfl).2, fun y hy => h.apart y ad hy rfl⟩
  have hrl : r < w.heap.size := h.foot r h.self
  have hgr : g ≠ r := hat.elim (fun e => (hob g e).2.1) (fun e => by omega)
  have S1 : Sans F w u2 := (Sans.of_below hb).then (Sans.of_grown hg (fun k e => (hob k e).1))
  have S2 : Sans (fun k => k = r) u2 (u2.setCell ⟨r, 3, none⟩ (.slice (some ⟨g, 0, none⟩) (m + 1) cap2)) := Sans.of_set u2 ⟨r, 3, none⟩ _ rfl
  have S12 : Sans F w (u2.setCell ⟨r, 3, none⟩ (.slice (some ⟨g, 0, none⟩) (m + 1) cap2)) := S1.then (S2.mono (fun k e => by rw [e]; exact h.self))
  have hgl : g < u2.heap.size := (hown.lt g rfl).2
  have SG : Sans (fun k => (Value.slice b m capb).ownBlock = some k) U u2 := Sans.of_grown hg (fun k e => e)
  have old : ∀ j, u2.cell? ⟨r, j, none⟩ = w.cell? ⟨r, j, none⟩ := fun j => (SG.cell (p := ⟨r, j, none⟩) (Nat.lt_of_lt_of_le hrl hb.size) (fun e => (hob r e).2.1 rfl)).trans (hb.cell (p := ⟨r, j, none⟩) hrl)
  have oldf : ∀ j, u2.frozen? ⟨r, j, none⟩ = w.frozen? ⟨r, j, none⟩ := fun j => (SG.frozen (p := ⟨r, j, none⟩) (Nat.lt_of_lt_of_le hrl hb.size) (fun e => (hob r e).2.1 rfl)).trans (hb.frozen (p := ⟨r, j, none⟩) hrl)
  have rl : (u2.setCell ⟨r, 3, none⟩ (.slice (some ⟨g, 0, none⟩) (m + 1) cap2)).ownsRow 0 27 4 (.slice a L.length cap) L.length (kcells L) :=
    owns_lift (owns_lift (owns_below h.rowL hb) SG (fun ad e e2 => (hob ad.block e2).2.2 ad e rfl)) S2 (fun ad e => (h.headL ad e).2)
  have hal : ∀ y, a = some y → y.block < w.heap.size := fun y e => h.foot _ (h.headL y e).1
  refine ⟨fun k => F k ∨ k = g, ⟨a, cap, some ⟨g, 0, none⟩, cap2, ⟨?_, .inl h.self, cell_set ((old 0).trans h.c0) (by omega), cell_set ((old 1).trans h.c1) (by omega), cell_set ((old 2).trans h.c2) (by omega), ?_, ?_, ?_, rl, ?_, fun ad e => ⟨.inl (h.headL ad e).1, (h.headL ad e).2⟩, ?_, ?_, h.fit⟩⟩, S12, ?_⟩
  · rintro k (e | e)
    · exact Nat.lt_of_lt_of_le (h.foot k e) S12.size
    · rw [e]; exact Nat.lt_of_lt_of_le hgl S2.size
  · rw [hlen]; exact World.cell?_setCell_same _ _ _ hc
  · rw [World.frozen?_setCell, oldf]; exact h.f2
  · rw [World.frozen?_setCell, oldf]; exact h.f3
  · rw [hlen, kcells_snoc]
    exact owns_at hown S2 hgr
  · intro ad e
    cases e
    exact ⟨.inr rfl, hgr⟩
  · intro x y ex ey
    cases ey
    exact hat.elim (fun e => (hob g e).2.2 x ex) (fun e => by have := hal x ex; show _ ≠ g; omega)
  · rintro k (e | e)
    · exact .inl e
    · exact hat.elim (fun e2 => .inl (by rw [e]; exact (hob g e2).1)) (fun e2 => .inr (by omega))
section
variable {w : World} {F : Nat → Prop} {r n q : Nat} {L G : List Pk}
set_option maxHeartbeats 4000000 in
set_option maxRecDepth 100000 in
theorem rhEject_any (h : HAt w F r n q L G) (x : Pk) (hG : G.length ≤ 100000) :
    Calls Try.prog 18 #[.pointer (some ⟨r, 0, none⟩), .agg #[.int .i64 x.s, .int .i64 x.d, .int .i64 x.l, .int .u32 x.b]] w fun e w' => e = .returned (.tuple #[]) ∧ ∃ F', HAt w' F' r n q L (G ++ [x]) ∧ Grows F w F' w' := by
  obtain ⟨a, cap, b, capb, h⟩ := h
  obtain ⟨W, hW⟩ : ∃ W, W = w.alloc (.cells #[.int .i64 x.s, .int .i64 x.d, .int .i64 x.l, .int .u32 x.b] 27) := ⟨_, rfl⟩
  have bel : Below w.heap.size w W := by rw [hW]; exact fresh _ _
  obtain ⟨m, hm⟩ : ∃ m, G.length = m := ⟨_, rfl⟩
  have k3 := (h.below bel).c3
  rw [hm] at k3 hG
  have HB : Hid (Below w.heap.size w W) := bel
  have H0 : Hid (HIn w F r n q L G a cap b capb) := h
  have HM : Hid (G.length = m) := hm
  have p0 : W.cell? ⟨w.heap.size, 0, none⟩ = some (.int .i64 x.s) := by rw [hW]; simp
  have p1 : W.cell? ⟨w.heap.size, 1, none⟩ = some (.int .i64 x.d) := by rw [hW]; simp
  have p2 : W.cell? ⟨w.heap.size, 2, none⟩ = some (.int .i64 x.l) := by rw [hW]; simp
  have p3 : W.cell? ⟨w.heap.size, 3, none⟩ = some (.int .u32 x.b) := by rw [hW]; simp
  obtain ⟨i0, hi0, hz0, hz1, hz2⟩ := info_parts infoPk
  obtain ⟨X, hX⟩ : ∃ X : Obj, X = .cells #[.int .i64 x.s, .int .i64 x.d, .int .i64 x.l, .int .u32 x.b] 27 := ⟨_, rfl⟩
  have HBX : Hid (Below w.heap.size w (W.drew.alloc X)) := later (later HB.out (drewN_below W 1)) (fresh _ _)
  have HO : Hid ((W.drew.alloc X).ownsRow 0 27 4 (.slice b m capb) m (kcells G)) := by
    have := (H0.out.below HBX.out).rowG
    rw [HM.out] at this
    exact this
  have HNw : Hid (∀ (j : Nat) (v : Value), [Value.int .i64 x.s, .int .i64 x.d, .int .i64 x.l, .int .u32 x.b][j]? = some v → (W.drew.alloc X).cell? ((⟨W.heap.size, 0, none⟩ : Addr).add j) = some v) := by
    rw [hX]
    exact World.news_of_block (cs := #[.int .i64 x.s, .int .i64 x.d, .int .i64 x.l, .int .u32 x.b]) (t := 27) (fr := (0, 0)) (heap_alloc_new W.drew _)
  have hrl : r < w.heap.size := H0.out.foot r H0.out.self
  have hrn : some r ≠ (Value.slice b m capb).ownBlock := by
    cases b with
    | none => simp [Value.ownBlock]
    | some ad => simp only [Value.ownBlock]; intro e; injection e with e; exact (H0.out.headG ad rfl).2 e.symm
  subst hX
  have hru : r < W.heap.size := cell_lt k3
  have hwu : w.heap.size < W.heap.size := cell_lt p0
  clear h bel hm
  go_enter Try.func18, Try.ntmps18
  go_wp2_with fail
  rw [← hW]
  clear hW
  go_region_law (refine step_append_lies _ (by rfl) (.tmp 8) (.tmp 10) 31 (by rfl) 0 27 i0 _ 4 32 Try.underlying31 hi0 hz0 hz1 hz2 rfl (by decide) (.slice b m capb) m (kcells G) (by rfl) HO.out ⟨W.heap.size, 0, none⟩ 1 1 [.int .i64 x.s, .int .i64 x.d, .int .i64 x.l, .int .u32 x.b] (by rfl) rfl HNw.out (by simp [Value.oneCell']) (by decide) (by unfold maxLen; omega) (by omega) (Nat.zero_le _) (W.heap.size + 1) (by simp) ?_; intro g cap2 u2 hown hg hat hlt; have s0 : u2.cell? ⟨r, 3, none⟩ = some (.slice b m capb) := hg.cell (a := ⟨r, 3, none⟩) (((HBX.out.cell (p := ⟨r, 3, none⟩) hrl).trans H0.out.c3).trans (by rw [HM.out])) hrn; have s1 : u2.frozen? ⟨r, 3, none⟩ = false := (hg.frozen_far ⟨r, 3, none⟩ (Nat.lt_of_lt_of_le hrl HBX.out.size) hrn).trans ((HBX.out.frozen (p := ⟨r, 3, none⟩) hrl).trans H0.out.f3))
  all_goals
    go_wp2_with fail
    go_end0
    exact ⟨rfl, eject_ref H0.out HM.out HBX.out hown hg hat s0 HB.out.size⟩
end
end Go.Proofs.Ytfldhjeeoaplfaa
