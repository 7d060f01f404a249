/-
  Contracts and plain facts that the walks lean on (RingD, RingE). Conditions: none but those that each states.
-/
import Derived.Test.YtniicgbkeifnjaaGreatDoorQ3
namespace Go.Proofs.YtniicgbkeifnjaaGreatDoor.K
open Go.ChangeShapes Go.WideShapes Go.ChangeAt Go.RowKit
set_option linter.unusedVariables false
set_option maxRecDepth 100000
theorem Held.snoc {S : List (Option Pk)} {sl : List Nat} {xs : List Pk} {k : Nat} {x : Pk} (h : Held S sl xs) (hk : S[k]? = some none) : Held (S.set k (some x)) (sl ++ [k]) (xs ++ [x]) := by
  obtain ⟨hlt, hk2⟩ := List.getElem?_eq_some_iff.1 hk
  refine ⟨by rw [List.length_append, List.length_append, h.1]; rfl, fun j m hm => ?_⟩
  by_cases hj : j < sl.length
  · rw [List.getElem?_append_left hj] at hm
    obtain ⟨y, h1, h2⟩ := h.2 j m hm
    have hne : k ≠ m := by
      intro e
      subst e
      rw [hk] at h2
      cases h2
    refine ⟨y, ?_, ?_⟩
    · rw [List.getElem?_append_left (by rw [← h.1]; exact hj)]; exact h1
    · rw [List.getElem?_set_ne hne]; exact h2
  · rw [List.getElem?_append_right (by omega)] at hm
    have h0 : j - sl.length = 0 := by
      have := (List.getElem?_eq_some_iff.1 hm).1
      simp at this
      omega
    rw [h0] at hm
    simp at hm
    subst hm
    refine ⟨x, ?_, List.getElem?_set_self hlt⟩
    rw [List.getElem?_append_right (by rw [← h.1]; omega), ← h.1, h0]
    rfl
theorem Held.keep {S : List (Option Pk)} {sl : List Nat} {xs : List Pk} {k : Nat} {v : Option Pk} (h : Held S sl xs) (hk : ∀ j : Nat, sl[j]? ≠ some k) : Held (S.set k v) sl xs := by
  refine ⟨h.1, fun j m hm => ?_⟩
  obtain ⟨y, h1, h2⟩ := h.2 j m hm
  refine ⟨y, h1, ?_⟩
  rw [List.getElem?_set_ne (fun e => hk j (by rw [e]; exact hm))]
  exact h2
theorem Held.not {S : List (Option Pk)} {sl : List Nat} {xs : List Pk} {k : Nat} (h : Held S sl xs) (hk : S[k]? = some none) : ∀ j : Nat, sl[j]? ≠ some k := by
  intro j e
  obtain ⟨y, _, h2⟩ := h.2 j k e
  rw [hk] at h2
  cases h2
def Box3 (w : World) (p mb b : Nat) (i o l : Int) : Prop := w.cell? ⟨p, 4, none⟩ = some (.map (some mb)) ∧ w.cell? ⟨b, 0, none⟩ = some (.int .i64 i) ∧ w.cell? ⟨b, 1, none⟩ = some (.int .i64 o) ∧ w.cell? ⟨b, 2, none⟩ = some (.int .i64 l)
theorem Box3.sans {H : Nat → Prop} {w w' : World} {p mb b : Nat} {i o l : Int} (h : Box3 w p mb b i o l) (k : Sans H w w') (hp : ¬ H p) (hb : ¬ H b) : Box3 w' p mb b i o l :=
  ⟨(k.cell (p := ⟨p, 4, none⟩) (cell_lt h.1) hp).trans h.1, (k.cell (p := ⟨b, 0, none⟩) (cell_lt h.2.1) hb).trans h.2.1, (k.cell (p := ⟨b, 1, none⟩) (cell_lt h.2.2.1) hb).trans h.2.2.1, (k.cell (p := ⟨b, 2, none⟩) (cell_lt h.2.2.2) hb).trans h.2.2.2⟩
theorem Box3.below {w w' : World} {p mb b : Nat} {i o l : Int} (h : Box3 w p mb b i o l) (k : Below w.heap.size w w') : Box3 w' p mb b i o l := h.sans (H := fun _ => False) (Sans.of_below k) (fun e => e) (fun e => e)
section
variable {w : World} {F G : Nat → Prop} {p pp mb P L n c : Nat} {S : List (Option Pk)} {E : List Nat} {V : Pl → Value} {sl : Pl → List Nat} {Qs : Pl → List Pk}
theorem RIn.pushed {w' : World} {G' F' : Nat → Prop} {k : Nat} {x : Pk} {q : Pl} {v' : Value} (h : RIn w F G p pp mb P L n S (E ++ [k]) c V sl Qs)
    (hF : ∀ j, F' j ↔ F j ∨ G' j ∨ vblk v' j) (hlt : ∀ j, F' j → j < w'.heap.size) (hpG : ∀ j, G' j → G j ∨ w.heap.size ≤ j)
    (hv : ∀ g, vblk v' g → vblk (V q) g ∨ (w.heap.size ≤ g ∧ ¬ G' g))
    (hS : Sans (fun j => G j ∨ vblk (V q) j ∨ j = mb) w w') (hP : PoolAt w' G' pp n (S.set k (some x)) E) (hM : QMap w' mb (c + 1) (upd V q v')) (hR : QRow w' v' (sl q ++ [k])) :
    RIn w' F' G' p pp mb P L n (S.set k (some x)) E (c + 1) (upd V q v') (upd sl q (sl q ++ [k])) (upd Qs q (Qs q ++ [x])) := by
  have hp := h.foot p h.fp
  have hk0 := (h.pool.inv.mem k).1 (by simp)
  have hpn : ¬ (G p ∨ vblk (V q) p ∨ p = mb) := by
    rintro (e | e | e)
    · exact h.pG e
    · exact (h.blk q p e).2.1 rfl
    · exact h.pm e
  have old : ∀ g, F g → ¬ G g → ¬ G' g := fun g hg hn e => (hpG g e).elim hn (fun e => by have := h.foot g hg; omega)
  refine ⟨hlt, (hF p).2 (.inl h.fp), (hF mb).2 (.inl h.fm), fun j hj => (hF j).2 (.inr (.inl hj)), h.pm, old p h.fp h.pG, old mb h.fm h.mG,
    (hS.cell (p := ⟨p, 0, none⟩) hp hpn).trans h.c0, (hS.cell (p := ⟨p, 1, none⟩) hp hpn).trans h.c1, (hS.cell (p := ⟨p, 2, none⟩) hp hpn).trans h.c2, (hS.cell (p := ⟨p, 3, none⟩) hp hpn).trans h.c3, (hS.cell (p := ⟨p, 4, none⟩) hp hpn).trans h.c4,
    hP, hM, fun r => ?_, fun r g hg => ?_, fun r r' g hg hg' => ?_, fun r => ?_, fun r => ?_, fun r r' j j' m hj hj' => ?_⟩
  · by_cases e : r = q
    · subst e; rw [upd_same, upd_same]; exact hR
    · rw [upd_other _ _ e, upd_other _ _ e]
      refine (h.row r).sans hS (fun g hg => ?_)
      rintro (e2 | e2 | e2)
      · exact (h.blk r g hg).2.2.2 e2
      · exact e (h.one r q g hg e2)
      · exact (h.blk r g hg).2.2.1 e2
  · by_cases e : r = q
    · subst e
      rw [upd_same] at hg
      refine ⟨(hF g).2 (.inr (.inr hg)), ?_⟩
      rcases hv g hg with h1 | ⟨h1, h2⟩
      · obtain ⟨a1, a2, a3, a4⟩ := h.blk r g h1
        exact ⟨a2, a3, old g a1 a4⟩
      · have := h.foot mb h.fm
        exact ⟨by omega, by omega, h2⟩
    · rw [upd_other _ _ e] at hg
      obtain ⟨a1, a2, a3, a4⟩ := h.blk r g hg
      exact ⟨(hF g).2 (.inl a1), a2, a3, old g a1 a4⟩
  · have key : ∀ {r r' : Pl} {g : Nat}, r ≠ q → vblk (V r) g → vblk v' g → False := by
      intro r r' g hr h1 h2
      rcases hv g h2 with h3 | ⟨h3, _⟩
      · exact hr (h.one r q g h1 h3)
      · have := h.foot g (h.blk r g h1).1; omega
    by_cases e : r = q
    · by_cases e' : r' = q
      · rw [e, e']
      · rw [e, upd_same] at hg
        rw [upd_other _ _ e'] at hg'
        exact (key (r' := r) e' hg' hg).elim
    · rw [upd_other _ _ e] at hg
      by_cases e' : r' = q
      · rw [e', upd_same] at hg'
        exact (key (r' := r) e hg hg').elim
      · rw [upd_other _ _ e'] at hg'
        exact h.one r r' g hg hg'
  · by_cases e : r = q
    · rw [e, upd_same, List.length_append]
      have := h.len q
      simp
      omega
    · rw [upd_other _ _ e]
      have := h.len r
      omega
  · by_cases e : r = q
    · rw [e, upd_same, upd_same]
      exact (h.held q).snoc hk0
    · rw [upd_other _ _ e, upd_other _ _ e]
      exact (h.held r).keep ((h.held r).not hk0)
  · have news : ∀ {r : Pl} {j m : Nat}, (upd sl q (sl q ++ [k]) r)[j]? = some m → (sl r)[j]? = some m ∨ (r = q ∧ j = (sl q).length ∧ m = k) := by
      intro r j m hj
      by_cases e : r = q
      · rw [e, upd_same] at hj
        by_cases hl : j < (sl q).length
        · rw [List.getElem?_append_left hl] at hj
          exact .inl (by rw [e]; exact hj)
        · rw [List.getElem?_append_right (by omega)] at hj
          have h0 : j - (sl q).length = 0 := by
            have := (List.getElem?_eq_some_iff.1 hj).1
            simp at this
            omega
          rw [h0] at hj
          simp at hj
          exact .inr ⟨e, by omega, hj.symm⟩
      · rw [upd_other _ _ e] at hj
        exact .inl hj
    rcases news hj with h1 | ⟨h1, h2, h3⟩ <;> rcases news hj' with h1' | ⟨h1', h2', h3'⟩
    · exact h.once r r' j j' m h1 h1'
    · subst h3'
      exact absurd h1 ((h.held r).not hk0 j)
    · subst h3
      exact absurd h1' ((h.held r').not hk0 j')
    · exact ⟨by rw [h1, h1'], by omega⟩
set_option maxHeartbeats 1000000 in
set_option maxRecDepth 100000 in
theorem spush_no (h : RIn w F G p pp mb P L n S [] c V sl Qs) (i o l : Int) (hq : Wf (i, o, l)) (x : Pk) :
    Calls Tryz.prog 164 #[.pointer (some ⟨p, 3, none⟩), .agg #[.int .i64 i, .int .i64 o, .int .i64 l], .agg #[.int .i64 x.s, .int .i64 x.d, .int .i64 x.l, .int .u32 x.b]] w fun e w' => e = .returned (.bool false) ∧ Below w.heap.size w w' := by
  obtain ⟨W, hW⟩ : ∃ W, W = (w.alloc (.cells #[.int .i64 i, .int .i64 o, .int .i64 l] 175)).alloc (.cells #[.int .i64 x.s, .int .i64 x.d, .int .i64 x.l, .int .u32 x.b] 25) := ⟨_, rfl⟩
  have bel : Below w.heap.size w W := by rw [hW]; exact later (fresh _ _) (fresh _ _)
  have h2 := h.below bel
  have hc3 := h2.c3
  have hx0 : W.cell? ⟨w.heap.size + 1, 0, none⟩ = some (.int .i64 x.s) := by rw [hW]; simp
  have hx1 : W.cell? ⟨w.heap.size + 1, 1, none⟩ = some (.int .i64 x.d) := by rw [hW]; simp
  have hx2 : W.cell? ⟨w.heap.size + 1, 2, none⟩ = some (.int .i64 x.l) := by rw [hW]; simp
  have hx3 : W.cell? ⟨w.heap.size + 1, 3, none⟩ = some (.int .u32 x.b) := by rw [hW]; simp
  have HX : Hid (PkAt W (w.heap.size + 1) 0 x) := ⟨hx0, hx1, hx2, hx3⟩
  have HB : Hid (Below w.heap.size w W) := bel
  have HP : Hid (PoolAt W G pp n S []) := h2.pool
  have hpl : p < W.heap.size := h2.foot p h2.fp
  clear h h2 bel
  go_enter Tryz.func164, Tryz.ntmps164
  go_wp2_with fail
  rw [← hW]
  clear hW
  go_region_held3 (fun w' => w'.cell? ⟨p, 3, none⟩ = some (.pointer (some ⟨pp, 0, none⟩)) ∧ w'.cell? ⟨w.heap.size + 1, 0, none⟩ = some (.int .i64 x.s) ∧ w'.cell? ⟨w.heap.size + 1, 1, none⟩ = some (.int .i64 x.d) ∧ w'.cell? ⟨w.heap.size + 1, 2, none⟩ = some (.int .i64 x.l) ∧ w'.cell? ⟨w.heap.size + 1, 3, none⟩ = some (.int .u32 x.b)) (go_keep)
    (first | (go_at_call 208; refine (put_none (HP.out.below (drewN_below _ 1)) _ _ _ _).mono ?_; rintro e u ⟨rfl, hb⟩; have k3 : u.cell? ⟨p, 3, none⟩ = some (.pointer (some ⟨pp, 0, none⟩)) := (hb.cell (p := ⟨p, 3, none⟩) hpl).trans hc3; obtain ⟨k4, k5, k6, k7⟩ := (HX.out.sans (F := fun _ => False) (Sans.of_below (drewN_below W 1)) (fun e => e)).sans (F := fun _ => False) (Sans.of_below hb) (fun e => e); have HU : Hid (Below w.heap.size w u) := later (later HB.out (drewN_below _ 1)) hb))
  go_wp2_with fail
  go_ret
  exact ⟨rfl, HU.out⟩
set_option maxHeartbeats 2000000 in
set_option maxRecDepth 100000 in
theorem spush_yes {k : Nat} (h : RIn w F G p pp mb P L n S (E ++ [k]) c V sl Qs) (hc : c < 1000000) (i o l : Int) (hq : Wf (i, o, l)) (x : Pk) :
    Calls Tryz.prog 164 #[.pointer (some ⟨p, 3, none⟩), .agg #[.int .i64 i, .int .i64 o, .int .i64 l], .agg #[.int .i64 x.s, .int .i64 x.d, .int .i64 x.l, .int .u32 x.b]] w fun e w' => e = .returned (.bool true) ∧ ∃ F' G' V' sl', RIn w' F' G' p pp mb P L n (S.set k (some x)) E (c + 1) V' sl' (upd Qs (i, o, l) (Qs (i, o, l) ++ [x])) ∧ Grows F w F' w' := by
  obtain ⟨W, hW⟩ : ∃ W, W = (w.alloc (.cells #[.int .i64 i, .int .i64 o, .int .i64 l] 175)).alloc (.cells #[.int .i64 x.s, .int .i64 x.d, .int .i64 x.l, .int .u32 x.b] 25) := ⟨_, rfl⟩
  have bel : Below w.heap.size w W := by rw [hW]; exact later (fresh _ _) (fresh _ _)
  have h2 := h.below bel
  have hc3 := h2.c3
  have hws : W.heap.size = w.heap.size + 2 := by rw [hW]; simp
  have hx0 : W.cell? ⟨w.heap.size + 1, 0, none⟩ = some (.int .i64 x.s) := by rw [hW]; simp
  have hx1 : W.cell? ⟨w.heap.size + 1, 1, none⟩ = some (.int .i64 x.d) := by rw [hW]; simp
  have hx2 : W.cell? ⟨w.heap.size + 1, 2, none⟩ = some (.int .i64 x.l) := by rw [hW]; simp
  have hx3 : W.cell? ⟨w.heap.size + 1, 3, none⟩ = some (.int .u32 x.b) := by rw [hW]; simp
  have hb0 : W.cell? ⟨w.heap.size, 0, none⟩ = some (.int .i64 i) := by rw [hW]; simp
  have hb1 : W.cell? ⟨w.heap.size, 1, none⟩ = some (.int .i64 o) := by rw [hW]; simp
  have hb2 : W.cell? ⟨w.heap.size, 2, none⟩ = some (.int .i64 l) := by rw [hW]; simp
  have HX : Hid (PkAt W (w.heap.size + 1) 0 x) := ⟨hx0, hx1, hx2, hx3⟩
  have HB : Hid (Below w.heap.size w W) := bel
  have H0 : Hid (RIn w F G p pp mb P L n S (E ++ [k]) c V sl Qs) := h
  have HR : Hid (RIn W F G p pp mb P L n S (E ++ [k]) c V sl Qs) := h2
  have HK : Hid (W.cell? ⟨w.heap.size, 0, none⟩ = some (.int .i64 i) ∧ W.cell? ⟨w.heap.size, 1, none⟩ = some (.int .i64 o) ∧ W.cell? ⟨w.heap.size, 2, none⟩ = some (.int .i64 l)) := ⟨hb0, hb1, hb2⟩
  have HWS : Hid (W.heap.size = w.heap.size + 2) := hws
  have hpl : p < W.heap.size := h2.foot p h2.fp
  have nG : ∀ j, w.heap.size ≤ j → ¬ G j := fun j hj e => by have := h.foot j (h.fG j e); omega
  clear h h2 bel hb0 hb1 hb2 hws
  go_enter Tryz.func164, Tryz.ntmps164
  go_wp2_with fail
  rw [← hW]
  clear hW
  go_region_held3 (fun w' => w'.cell? ⟨p, 3, none⟩ = some (.pointer (some ⟨pp, 0, none⟩)) ∧ w'.cell? ⟨w.heap.size + 1, 0, none⟩ = some (.int .i64 x.s) ∧ w'.cell? ⟨w.heap.size + 1, 1, none⟩ = some (.int .i64 x.d) ∧ w'.cell? ⟨w.heap.size + 1, 2, none⟩ = some (.int .i64 x.l) ∧ w'.cell? ⟨w.heap.size + 1, 3, none⟩ = some (.int .u32 x.b)) (go_keep)
    (first | (go_at_call 208; refine (put_some (HR.out.pool.below (drewN_below _ 1)) _ _ _ _).mono ?_; rintro e u ⟨rfl, G', hP, hG⟩; have k3 : u.cell? ⟨p, 3, none⟩ = some (.pointer (some ⟨pp, 0, none⟩)) := (hG.1.cell (p := ⟨p, 3, none⟩) hpl HR.out.pG).trans hc3; obtain ⟨k4, k5, k6, k7⟩ := (HX.out.sans (F := fun _ => False) (Sans.of_below (drewN_below W 1)) (fun e => e)).sans hG.1 (nG _ (Nat.le_succ _)); have HU : Hid (PoolAt u G' pp n (S.set k (some x)) E ∧ Grows G W G' u) := ⟨hP, (Sans.drewN W 1).then hG.1, hG.2⟩; clear hP hG))
  clear k3 k4 k5 k6 k7 hx0 hx1 hx2 hx3 hc3
  have hbl : w.heap.size < W.heap.size := by rw [HWS.out]; omega
  have HC : Hid (Box3 u p mb w.heap.size i o l) := Box3.sans (⟨HR.out.c4, HK.out⟩ : Box3 W p mb w.heap.size i o l) HU.out.2.1 HR.out.pG (nG _ (Nat.le_refl _))
  obtain ⟨hcu, hb0, hb1, hb2⟩ := HC.out
  have HM : Hid (QMap u mb c V) := HR.out.map.sans HU.out.2.1 HR.out.mG
  have HQ : Hid (QRow u (V (i, o, l)) (sl (i, o, l))) := (HR.out.row (i, o, l)).sans HU.out.2.1 (fun g hg => (HR.out.blk _ g hg).2.2.2)
  obtain ⟨X, hX⟩ : ∃ X : Obj, X = .cells #[.int .i64 (k : Nat)] 3 := ⟨_, rfl⟩
  have b1 : Below u.heap.size u (u.drew.alloc X) := later (drewN_below u 1) (fresh _ _)
  obtain ⟨st, u1, hE, S1, hback⟩ := QMap.entry (HM.out.sans (F := fun _ => False) (Sans.of_below b1) (fun e => e)) hq (by unfold maxLen; omega)
  rw [hX] at hE
  have hE1 : (Instr.mapEntry 176 (.map (some mb)) (.agg #[.int .i64 i, .int .i64 o, .int .i64 l])).run Tryz.prog (u.drew.alloc (.cells #[.int .i64 (k : Nat)] 3)) = .ok (.tuple #[V (i, o, l), .int .i64 st]) u1 := hE
  have hE2 : (Instr.mapEntry 176 (.map (some mb)) (.agg #[.int .i64 i, .int .i64 o, .int .i64 l])).run Tryz.prog (u.alloc (.cells #[.int .i64 (k : Nat)] 3)).drew = .ok (.tuple #[V (i, o, l), .int .i64 st]) u1 := hE
  have hpm := H0.out.pm
  have hwm : ¬ w.heap.size = mb := by have := H0.out.foot mb H0.out.fm; omega
  have hmu : mb < u.heap.size := HM.out.lt
  have ck1 : Box3 u1 p mb w.heap.size i o l := (HC.out.below b1).sans S1 hpm hwm
  have HQ1 : Hid (QRow u1 (V (i, o, l)) (sl (i, o, l))) := (HQ.out.below b1).sans S1 (fun g hg => (H0.out.blk _ g hg).2.2.1)
  have HN : Hid (∀ (j : Nat) (v : Value), [Value.int .i64 (k : Nat)][j]? = some v → u1.cell? ((⟨u.heap.size, 0, none⟩ : Addr).add j) = some v) := by
    intro j v hj
    have h1 := one_cell u.drew (k : Nat) j v hj
    rw [← hX] at h1
    rw [Addr.add_lit] at h1 ⊢
    exact (S1.cell (p := ⟨u.heap.size, 0 + j, none⟩) (by show u.heap.size < (u.drew.alloc X).heap.size; simp) (by show ¬ u.heap.size = mb; omega)).trans h1
  have HS1 : Hid (Below u.heap.size u (u.drew.alloc X) ∧ Sans (fun j => j = mb) (u.drew.alloc X) u1) := ⟨b1, S1⟩
  have HL : Hid ((sl (i, o, l)).length ≤ 1000000) := by have := H0.out.len (i, o, l); exact Nat.le_trans this (by omega)
  have HBK : Hid (∀ (u2 : World) (v : Value), u2.heap[mb]? = u1.heap[mb]? → ∃ u3, (Instr.entryStore 176 (.map (some mb)) (.int .i64 st) v).run Tryz.prog u2 = .ok () u3 ∧ QMap u3 mb (c + 1) (upd V (i, o, l) v) ∧ Sans (fun k => k = mb) u2 u3) := hback
  have hmu1 : mb < u1.heap.size := Nat.lt_of_lt_of_le (Nat.lt_of_lt_of_le hmu b1.size) S1.size
  clear hE b1 S1 hback hmu
  go_wp2_with fail
  go_region_held3 (fun w' => w'.cell? ⟨p, 4, none⟩ = some (.map (some mb)) ∧ w'.cell? ⟨w.heap.size, 0, none⟩ = some (.int .i64 i) ∧ w'.cell? ⟨w.heap.size, 1, none⟩ = some (.int .i64 o) ∧ w'.cell? ⟨w.heap.size, 2, none⟩ = some (.int .i64 l)) (first | exact ck3 | exact ck2 | exact ck1 | exact HC.out.below (drewN_below u 1) | exact HC.out.below (later (drewN_below u 1) (fresh _ _)) | go_keep)
    (first | (refine step_push rfl (.tmp 24) (.tmp 26) rfl (V (i, o, l)) (sl (i, o, l)) rfl HQ1.out k ⟨u.heap.size, 0, none⟩ 1 rfl HN.out HL.out ?_; intro v' u2 hq2 hs2 hv2; have ck2 : Box3 u2 p mb w.heap.size i o l := ck1.sans hs2 (fun e => (H0.out.blk _ _ e).2.1 rfl) (fun e => by have := H0.out.foot _ (H0.out.blk _ _ e).1; omega); obtain ⟨u3, hst, hM3, hs3⟩ := HBK.out u2 v' (hs2.block mb hmu1 (fun e => (H0.out.blk _ _ e).2.2.1 rfl)); have ck3 : Box3 u3 p mb w.heap.size i o l := ck2.sans hs3 hpm hwm; have HZ : Hid (QRow u2 v' (sl (i, o, l) ++ [k]) ∧ Sans (vblk (V (i, o, l))) u1 u2 ∧ (∀ g, vblk v' g → vblk (V (i, o, l)) g ∨ u1.heap.size ≤ g) ∧ QMap u3 mb (c + 1) (upd V (i, o, l) v') ∧ Sans (fun k => k = mb) u2 u3) := ⟨hq2, hs2, hv2, hM3, hs3⟩; clear hq2 hs2 hv2 hM3 hs3))
  go_wp2_with fail
  go_ret
  have h := H0.out
  obtain ⟨z1, z2, z3, z4, z5⟩ := HZ.out
  obtain ⟨y1, y2⟩ := HS1.out
  obtain ⟨t1, t2, t3⟩ := HU.out
  have hws := HWS.out
  have s01 : Sans (fun j => G j ∨ vblk (V (i, o, l)) j ∨ j = mb) w u1 := (((Sans.of_below HB.out).then (t2.mono (fun j e => .inl e))).then (Sans.of_below y1)).then (y2.mono (fun j e => .inr (.inr e)))
  have s03 : Sans (fun j => G j ∨ vblk (V (i, o, l)) j ∨ j = mb) w u3 := (s01.then (z2.mono (fun j e => .inr (.inl e)))).then (z5.mono (fun j e => .inr (.inr e)))
  have szu : u.heap.size ≤ u1.heap.size := Nat.le_trans y1.size y2.size
  have szW : W.heap.size ≤ u.heap.size := t2.size
  have sz3 : u1.heap.size ≤ u3.heap.size := Nat.le_trans z2.size z5.size
  have hmb := h.foot mb h.fm
  have nG' : ∀ g, F g → ¬ G g → ¬ G' g := fun g hg hn e => (t3 g e).elim hn (fun e => by have := h.foot g hg; omega)
  have hv : ∀ g, vblk v' g → vblk (V (i, o, l)) g ∨ (w.heap.size ≤ g ∧ ¬ G' g) := fun g hg => (z3 g hg).imp id (fun e => ⟨by omega, fun e2 => by have := t1.foot g e2; omega⟩)
  have hvm : ∀ g, vblk v' g → ¬ g = mb := fun g hg => (hv g hg).elim (fun e => (h.blk _ g e).2.2.1) (fun e => by omega)
  have hsu : Sans (fun j => vblk (V (i, o, l)) j ∨ j = mb) u u3 := (((Sans.of_below y1).then (y2.mono (fun j e => .inr e))).then (z2.mono (fun j e => .inl e))).then (z5.mono (fun j e => .inr e))
  have hR3 : QRow u3 v' (sl (i, o, l) ++ [k]) := z1.sans z5 hvm
  refine ⟨rfl, fun j => F j ∨ G' j ∨ vblk v' j, G', _, _, RIn.pushed h (fun j => Iff.rfl) ?_ (fun j e => (t3 j e).imp id (fun e => by omega)) hv s03 (t1.sans hsu ?_) z4 hR3, s03.mono ?_, ?_⟩
  · rintro j (e | e | e)
    · exact Nat.lt_of_lt_of_le (h.foot j e) s03.size
    · have := t1.foot j e; omega
    · exact hR3.lt e
  · rintro j e (e2 | e2)
    · obtain ⟨a1, a2, a3, a4⟩ := h.blk _ j e2
      exact nG' j a1 a4 e
    · subst e2; exact nG' _ h.fm h.mG e
  · rintro j (e | e | e)
    · exact h.fG j e
    · exact (h.blk _ j e).1
    · rw [e]; exact h.fm
  · rintro j (e | e | e)
    · exact .inl e
    · exact (t3 j e).imp (h.fG j) (fun e => by omega)
    · exact (hv j e).imp (fun e => (h.blk _ j e).1) (fun e => e.1)
end
end Go.Proofs.YtniicgbkeifnjaaGreatDoor.K
namespace Go.Proofs.YtniicgbkeifnjaaGreatDoor.K
open Go.ChangeShapes Go.WideShapes Go.ChangeAt Go.RowKit
set_option linter.unusedVariables false
set_option maxRecDepth 100000
theorem Held.tail {S : List (Option Pk)} {k : Nat} {sr : List Nat} {x : Pk} {r : List Pk} (h : Held S (k :: sr) (x :: r)) : Held S sr r := by
  refine ⟨by have := h.1; simpa using this, fun j m hm => ?_⟩
  obtain ⟨y, h1, h2⟩ := h.2 (j + 1) m (by simpa using hm)
  exact ⟨y, by simpa using h1, h2⟩
theorem step_strike {w : World} {ops : Array Oper} {o : Oper} {a : Act} {K : Act → World → Prop} {Q : Exit → Act → World → Prop} {X : Prop} (hgd : o.guard = none) (s x : Operand)
    (ho : o.op = .call { callee := .builtin .delete, args := #[s, x], argTypes := #[176, 175] })
    (mb c : Nat) (V : Pl → Value) (hs : a.eval s = .map (some mb)) (h : QMap w mb c V) (q : Pl) (hq : Wf q) (hx : a.eval x = key q)
    (hK : ∀ w', QMap w' mb c (upd V q nilS) → Sans (fun k => k = mb) w w' → K (a.put o.dst (.tuple #[])) w') : if Region.wanted o (yielded ops a.tmps) = true then Oper.wp Tryz.prog o a w K Q else X := by
  have hw : Region.wanted o (yielded ops a.tmps) = true := by simp [Region.wanted, hgd]
  rw [if_pos hw]
  obtain ⟨w', hrun, h1, h2⟩ := h.strike hq o.type
  unfold Oper.wp
  simp [execOp, ho, resolve, invoke, builtin, hs, hx, hrun, Result.andThen]
  exact hK w' h1 h2
section
variable {w : World} {F G : Nat → Prop} {p pp mb P L n c : Nat} {S : List (Option Pk)} {E : List Nat} {V : Pl → Value} {sl : Pl → List Nat} {Qs : Pl → List Pk}
theorem RIn.popped {w' : World} {k : Nat} {sr : List Nat} {x : Pk} {r : List Pk} {q : Pl} {v' : Value} (h : RIn w F G p pp mb P L n S E c V sl Qs) (hsl : sl q = k :: sr) (hx : Qs q = x :: r)
    (hv : ∀ g, vblk v' g → vblk (V q) g) (hS : Sans (fun j => G j ∨ j = mb) w w') (hP : PoolAt w' G pp n (S.set k none) (E ++ [k])) (hM : QMap w' mb (c + 1) (upd V q v')) (hR : QRow w' v' sr) :
    RIn w' F G p pp mb P L n (S.set k none) (E ++ [k]) (c + 1) (upd V q v') (upd sl q sr) (upd Qs q r) := by
  have hp := h.foot p h.fp
  have hpn : ¬ (G p ∨ p = mb) := by
    rintro (e | e)
    · exact h.pG e
    · exact h.pm e
  have hk0 : (sl q)[0]? = some k := by rw [hsl]; rfl
  refine ⟨fun j hj => Nat.lt_of_lt_of_le (h.foot j hj) hS.size, h.fp, h.fm, h.fG, h.pm, h.pG, h.mG,
    (hS.cell (p := ⟨p, 0, none⟩) hp hpn).trans h.c0, (hS.cell (p := ⟨p, 1, none⟩) hp hpn).trans h.c1, (hS.cell (p := ⟨p, 2, none⟩) hp hpn).trans h.c2, (hS.cell (p := ⟨p, 3, none⟩) hp hpn).trans h.c3, (hS.cell (p := ⟨p, 4, none⟩) hp hpn).trans h.c4,
    hP, hM, fun t => ?_, fun t g hg => ?_, fun t t' g hg hg' => ?_, fun t => ?_, fun t => ?_, fun t t' j j' m hj hj' => ?_⟩
  · by_cases e : t = q
    · subst e; rw [upd_same, upd_same]; exact hR
    · rw [upd_other _ _ e, upd_other _ _ e]
      refine (h.row t).sans hS (fun g hg => ?_)
      rintro (e2 | e2)
      · exact (h.blk t g hg).2.2.2 e2
      · exact (h.blk t g hg).2.2.1 e2
  · by_cases e : t = q
    · subst e
      rw [upd_same] at hg
      exact h.blk t g (hv g hg)
    · rw [upd_other _ _ e] at hg
      exact h.blk t g hg
  · have back : ∀ {t : Pl} {g : Nat}, vblk (upd V q v' t) g → vblk (V t) g := by
      intro t g hg
      by_cases e : t = q
      · subst e
        rw [upd_same] at hg
        exact hv g hg
      · rw [upd_other _ _ e] at hg
        exact hg
    exact h.one t t' g (back hg) (back hg')
  · by_cases e : t = q
    · rw [e, upd_same]
      have := h.len q
      rw [hsl] at this
      simp at this
      omega
    · rw [upd_other _ _ e]
      have := h.len t
      omega
  · by_cases e : t = q
    · rw [e, upd_same, upd_same]
      have hh := h.held q
      rw [hsl, hx] at hh
      refine hh.tail.keep (fun j ej => ?_)
      have := (h.once q q 0 (j + 1) k hk0 (by rw [hsl]; simpa using ej)).2
      omega
    · rw [upd_other _ _ e, upd_other _ _ e]
      exact (h.held t).keep (fun j ej => e (h.once t q j 0 k ej hk0).1)
  · have news : ∀ {t : Pl} {j m : Nat}, (upd sl q sr t)[j]? = some m → (t = q ∧ (sl q)[j + 1]? = some m) ∨ (t ≠ q ∧ (sl t)[j]? = some m) := by
      intro t j m hj
      by_cases e : t = q
      · rw [e, upd_same] at hj
        exact .inl ⟨e, by rw [hsl]; simpa using hj⟩
      · rw [upd_other _ _ e] at hj
        exact .inr ⟨e, hj⟩
    rcases news hj with ⟨h1, h2⟩ | ⟨h1, h2⟩ <;> rcases news hj' with ⟨h1', h2'⟩ | ⟨h1', h2'⟩
    · have := (h.once q q _ _ m h2 h2').2
      exact ⟨by rw [h1, h1'], by omega⟩
    · exact absurd (h.once q t' _ _ m h2 h2').1.symm h1'
    · exact absurd (h.once t q _ _ m h2 h2').1 h1
    · exact h.once t t' j j' m h2 h2'
set_option maxHeartbeats 2000000 in
set_option maxRecDepth 100000 in
theorem sbehead (h : RIn w F G p pp mb P L n S E c V sl Qs) (hc : c < 1000000) (i o l : Int) (hq : Wf (i, o, l)) (x : Pk) (r : List Pk) (hx : Qs (i, o, l) = x :: r) :
    Calls Tryz.prog 217 #[.pointer (some ⟨p, 3, none⟩), .agg #[.int .i64 i, .int .i64 o, .int .i64 l]] w fun e w' => e = .returned (.tuple #[]) ∧ ∃ k V' sl', RIn w' F G p pp mb P L n (S.set k none) (E ++ [k]) (c + 1) V' sl' (upd Qs (i, o, l) r) ∧ Sans F w w' := by
  obtain ⟨k, sr, hsl, hSk⟩ := (h.held (i, o, l)).first hx
  obtain ⟨g, off, cap, hV, hcg, hcap, hcm, hgl⟩ := h.consV hsl
  obtain ⟨m, hm⟩ : ∃ m, sr.length = m := ⟨_, rfl⟩
  rw [hm] at hV hcap
  have hvg : vblk (V (i, o, l)) g := ⟨_, _, _, hV⟩
  obtain ⟨gF, gp, gm, gG⟩ := h.blk _ g hvg
  obtain ⟨W, hW⟩ : ∃ W, W = w.alloc (.cells #[.int .i64 i, .int .i64 o, .int .i64 l] 175) := ⟨_, rfl⟩
  have bel : Below w.heap.size w W := by rw [hW]; exact fresh _ _
  have h2 := h.below bel
  have hc4 := h2.c4
  have hc3 := h2.c3
  have hb0 : W.cell? ⟨w.heap.size, 0, none⟩ = some (.int .i64 i) := by rw [hW]; simp
  have hb1 : W.cell? ⟨w.heap.size, 1, none⟩ = some (.int .i64 o) := by rw [hW]; simp
  have hb2 : W.cell? ⟨w.heap.size, 2, none⟩ = some (.int .i64 l) := by rw [hW]; simp
  have hcgW : W.cell? ⟨g, off, none⟩ = some (.int .i64 (k : Nat)) := (bel.cell (p := ⟨g, off, none⟩) hgl).trans hcg
  have hl : (Instr.lookup 176 (.map (some mb)) (.agg #[.int .i64 i, .int .i64 o, .int .i64 l]) false).run Tryz.prog W.drew = .ok (.slice (some ⟨g, off, none⟩) (m + 1) cap) W.drew := by
    have := (h2.below (drewN_below W 1)).map.look hq
    rw [hV] at this
    exact this
  have HB : Hid (Below w.heap.size w W) := bel
  have H0 : Hid (RIn w F G p pp mb P L n S E c V sl Qs ∧ sl (i, o, l) = k :: sr ∧ Qs (i, o, l) = x :: r ∧ sr.length = m ∧ V (i, o, l) = .slice (some ⟨g, off, none⟩) (m + 1) cap) := ⟨h, hsl, hx, hm, hV⟩
  have HR : Hid (RIn W F G p pp mb P L n S E c V sl Qs) := h2
  have HP : Hid (PoolAt W G pp n S E ∧ S[k]? = some (some x)) := ⟨h2.pool, hSk⟩
  have HC : Hid (Box3 W p mb w.heap.size i o l) := ⟨hc4, hb0, hb1, hb2⟩
  have hpl : p < W.heap.size := h2.foot p h2.fp
  have hgl2 : g < W.heap.size := Nat.lt_of_lt_of_le hgl bel.size
  have nG : ∀ j, w.heap.size ≤ j → ¬ G j := fun j hj e => by have := h.foot j (h.fG j e); omega
  have hm0 : 0 < m + 1 := by omega
  have HCM : Hid (cap ≤ maxLen) := hcm
  unfold maxLen at hcm
  have hmx : m ≤ 9223372036854775806 := by omega
  have hpm := h.pm
  have hwm : ¬ w.heap.size = mb := by have := h.foot mb h.fm; omega
  clear h h2 hx bel hsl hSk hcg hm hV hvg
  go_enter Tryz.func217, Tryz.ntmps217
  go_wp2_with fail
  rw [← hW]
  clear hW
  go_region_held3 (fun w' => w'.cell? ⟨p, 4, none⟩ = some (.map (some mb)) ∧ w'.cell? ⟨w.heap.size, 0, none⟩ = some (.int .i64 i) ∧ w'.cell? ⟨w.heap.size, 1, none⟩ = some (.int .i64 o) ∧ w'.cell? ⟨w.heap.size, 2, none⟩ = some (.int .i64 l) ∧ (Instr.lookup 176 (.map (some mb)) (.agg #[.int .i64 i, .int .i64 o, .int .i64 l]) false).run Tryz.prog w' = .ok (.slice (some ⟨g, off, none⟩) (m + 1) cap) w') (go_keep) (fail)
  go_wp2_with fail
  clear hl
  go_region_held3 (fun w' => w'.cell? ⟨p, 3, none⟩ = some (.pointer (some ⟨pp, 0, none⟩)) ∧ w'.cell? ⟨g, off, none⟩ = some (.int .i64 (k : Nat))) (go_keep)
    (first | (go_at_call 246; refine (drop_yes (HP.out.1.below (drewN_below _ 2)) HP.out.2).mono ?_; rintro e u ⟨rfl, hP, hs⟩; have k3 : u.cell? ⟨p, 3, none⟩ = some (.pointer (some ⟨pp, 0, none⟩)) := (hs.cell (p := ⟨p, 3, none⟩) hpl HR.out.pG).trans hc3; have kg : u.cell? ⟨g, off, none⟩ = some (.int .i64 (k : Nat)) := (hs.cell (p := ⟨g, off, none⟩) hgl2 gG).trans hcgW; have HU : Hid (PoolAt u G pp n (S.set k none) (E ++ [k]) ∧ Sans G W u) := ⟨hP, (Sans.drewN W 2).then hs⟩; clear hP hs))
  clear hc3 hc4 hb0 hb1 hb2 hcgW k3 kg
  have HC2 : Hid (Box3 u p mb w.heap.size i o l) := HC.out.sans HU.out.2 HR.out.pG (nG _ (Nat.le_refl _))
  have HM : Hid (QMap u mb c V) := HR.out.map.sans HU.out.2 HR.out.mG
  have HQ : Hid (QRow u (.slice (some ⟨g, off, none⟩) (m + 1) cap) (k :: sr)) := by
    have := (HR.out.row (i, o, l)).sans HU.out.2 (fun g hg => (HR.out.blk _ g hg).2.2.2)
    rw [H0.out.2.1, H0.out.2.2.2.2] at this
    exact this
  obtain ⟨hcu, hb0, hb1, hb2⟩ := HC2.out
  go_wp2_with fail
  · have h0 : m = 0 := by
      have hh : ((m : Int) + 1 == 1) = true := by assumption
      simp at hh
      omega
    subst h0
    go_region_held3 (fun w' => w'.cell? ⟨p, 4, none⟩ = some (.map (some mb)) ∧ w'.cell? ⟨w.heap.size, 0, none⟩ = some (.int .i64 i) ∧ w'.cell? ⟨w.heap.size, 1, none⟩ = some (.int .i64 o) ∧ w'.cell? ⟨w.heap.size, 2, none⟩ = some (.int .i64 l)) (first | exact ck1 | exact HC2.out.below (drewN_below u 1) | go_keep)
      (first | (refine step_strike rfl (.tmp 25) (.tmp 26) rfl mb c V rfl (HM.out.sans (F := fun _ => False) (Sans.of_below (drewN_below u 1)) (fun e => e)) (i, o, l) hq rfl ?_; intro u1 hM1 hs1; have ck1 : Box3 u1 p mb w.heap.size i o l := (HC2.out.below (drewN_below u 1)).sans hs1 hpm hwm; have HZ : Hid (QMap u1 mb c (upd V (i, o, l) nilS) ∧ Sans (fun k => k = mb) u u1) := ⟨hM1, (Sans.drewN u 1).then hs1⟩; clear hM1 hs1))
    go_wp2_with fail
    refine bodyPost_ret (v := .tuple #[]) (by simp [results, Tryz.results217, go_sem]) rfl ?_
    obtain ⟨h, hsl, hx, hm, hV⟩ := H0.out
    obtain ⟨z1, z2⟩ := HZ.out
    obtain ⟨t1, t2⟩ := HU.out
    have hsr : sr = [] := List.length_eq_zero_iff.1 hm
    subst hsr
    have s01 : Sans (fun j => G j ∨ j = mb) w u1 := ((Sans.of_below HB.out).then (t2.mono (fun j e => .inl e))).then (z2.mono (fun j e => .inr e))
    refine ⟨rfl, k, _, _, RIn.popped h hsl hx (fun g hg => absurd hg vblk_nil) s01 (t1.sans z2 (fun j hj e => h.mG (e ▸ hj))) (z1.mono (Nat.le_succ _)) (QRow.nil _), s01.mono ?_⟩
    rintro j (e | e)
    · exact h.fG j e
    · rw [e]; exact h.fm
  · have hh : ¬ ((m : Int) + 1 == 1) = true := by first | assumption | (intro e; simp_all; done)
    obtain ⟨m1, rfl⟩ : ∃ m1, m = m1 + 1 := ⟨m - 1, by
      have h0 : ¬ m = 0 := by
        intro e
        subst e
        exact hh rfl
      omega⟩
    obtain ⟨cp, rfl⟩ : ∃ cp, cap = cp + 1 := ⟨cap - 1, by omega⟩
    have hcp : ¬ cp + 1 = 1 := by omega
    have hcp2 : (1 : Int) ≤ (m1 : Int) + 1 + 1 := by omega
    obtain ⟨u1, hst, hM1, hs1⟩ := QMap.store (HM.out.sans (F := fun _ => False) (Sans.of_below (drewN_below u 1)) (fun e => e)) hq (.slice (some ⟨g, off + 1, none⟩) (m1 + 1) cp) (by unfold maxLen; omega)
    have hst1 : (Instr.mapUpdate 176 (.map (some mb)) (.agg #[.int .i64 i, .int .i64 o, .int .i64 l]) (.slice (some ⟨g, off + 1, none⟩) (m1 + 1) cp)).run Tryz.prog u.drew = .ok () u1 := hst
    have ck1 : Box3 u1 p mb w.heap.size i o l := (HC2.out.below (drewN_below u 1)).sans hs1 hpm hwm
    have HZ : Hid (QMap u1 mb (c + 1) (upd V (i, o, l) (.slice (some ⟨g, off + 1, none⟩) (m1 + 1) cp)) ∧ Sans (fun k => k = mb) u u1) := ⟨hM1, (Sans.drewN u 1).then hs1⟩
    clear hM1 hs1 hst
    go_region_held3 (fun w' => w'.cell? ⟨p, 4, none⟩ = some (.map (some mb)) ∧ w'.cell? ⟨w.heap.size, 0, none⟩ = some (.int .i64 i) ∧ w'.cell? ⟨w.heap.size, 1, none⟩ = some (.int .i64 o) ∧ w'.cell? ⟨w.heap.size, 2, none⟩ = some (.int .i64 l)) (first | exact ck1 | exact HC2.out.below (drewN_below u 1) | go_keep) (fail)
    go_wp2_with fail
    go_end0
    obtain ⟨h, hsl, hx, hm, hV⟩ := H0.out
    obtain ⟨z1, z2⟩ := HZ.out
    obtain ⟨t1, t2⟩ := HU.out
    have s01 : Sans (fun j => G j ∨ j = mb) w u1 := ((Sans.of_below HB.out).then (t2.mono (fun j e => .inl e))).then (z2.mono (fun j e => .inr e))
    have hR : QRow u1 (.slice (some ⟨g, off + 1, none⟩) (m1 + 1) cp) sr := by
      have hq0 := HQ.out
      rw [← hm] at hq0 ⊢
      exact hq0.tail.sans z2 (fun g' hg' e => gm (by rw [← vblk_some hg']; exact e))
    refine ⟨rfl, k, _, _, RIn.popped h hsl hx (fun g' hg' => by rw [vblk_some hg', hV]; exact ⟨_, _, _, rfl⟩) s01 (t1.sans z2 (fun j hj e => h.mG (e ▸ hj))) z1 hR, s01.mono ?_⟩
    rintro j (e | e)
    · exact h.fG j e
    · rw [e]; exact h.fm
end
end Go.Proofs.YtniicgbkeifnjaaGreatDoor.K
