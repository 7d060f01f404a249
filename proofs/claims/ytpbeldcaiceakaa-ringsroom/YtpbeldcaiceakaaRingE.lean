/-
  Package rings, as it landed: the store's behead, over rings whose memory is their own. Conditions: none but that the rings are such, and that the queue has a packet.
-/
import Derived.Test.YtpbeldcaiceakaaRingD
namespace Go.Proofs.Ytpbeldcaiceakaa
open Go.ChangeShapes Go.WideShapes Go.ChangeAt Go.RowKit
set_option linter.unusedVariables false

theorem Held.tail {S : List (Option Pk)} {k : Nat} {sr : List Nat} {x : Pk} {r : List Pk} (h : Held S (k :: sr) (x :: r)) : Held S sr r := by
  refine ⟨by have := h.1; simpa using this, fun j m hm => ?_⟩
  obtain ⟨y, h1, h2⟩ := h.2 (j + 1) m (by simpa using hm)
  exact ⟨y, by simpa using h1, h2⟩
/-- delete, as a step of a statement whose order is drawn -/
theorem step_strike {w : World} {ops : Array Oper} {o : Oper} {a : Act} {K : Act → World → Prop} {Q : Exit → Act → World → Prop} {X : Prop} (hgd : o.guard = none) (s x : Operand)
    (ho : o.op = .call { callee := .builtin .delete, args := #[s, x], argTypes := #[52, 51] })
    (mb c : Nat) (V : Pl → Value) (hs : a.eval s = .map (some mb)) (h : QMap w mb c V) (q : Pl) (hq : Wf q) (hx : a.eval x = key q)
    (hK : ∀ w', QMap w' mb c (upd V q nilS) → Sans (fun k => k = mb) w w' → K (a.put o.dst (.tuple #[])) w') : if Region.wanted o (yielded ops a.tmps) = true then Oper.wp Try.prog o a w K Q else X := by
  have hw : Region.wanted o (yielded ops a.tmps) = true := by simp [Region.wanted, hgd]
  rw [if_pos hw]
  obtain ⟨w', hrun, h1, h2⟩ := h.strike hq o.type
  unfold Oper.wp
  simp [execOp, ho, resolve, invoke, builtin, hs, hx, hrun, Result.andThen]
  exact hK w' h1 h2
section
variable {w : World} {F G : Nat → Prop} {p pp mb P L n c : Nat} {S : List (Option Pk)} {E : List Nat} {V : Pl → Value} {sl : Pl → List Nat} {Qs : Pl → List Pk}
/-- a queue without its first one -/
theorem RIn.popped {w' : World} {k : Nat} {sr : List Nat} {x : Pk} {r : List Pk} {q : Pl} {v' : Value} (h : RIn w F G p pp mb P L n S E c V sl Qs) (hsl : sl q = k :: sr) (hx : Qs q = x :: r)
    (hv : ∀ g, vblk v' g → vblk (V q) g) (hS : Sans (fun j => G j ∨ j = mb) w w') (hP : PoolAt w' G pp n (S.set k none) (E ++ [k])) (hM : QMap w' mb (c + 1) (upd V q v')) (hR : QRow w' v' sr) :
    RIn w' F G p pp mb P L n (S.set k none) (E ++ [k]) (c + 1) (upd V q v') (upd sl q sr) (upd Qs q r) := by
  have hp := h.foot p h.fp
  have hpn : ¬ (G p ∨ p = mb) := by
    rintro (e | e)
    · exact h.pG e
    · exact h.pm e
  have hk0 : (sl q)[0]? = some k := by rw [hsl]; rfl
  refine ⟨fun j hj => Nat.lt_of_lt_of_le (h.foot j hj) hS.size, h.fp, h.fm, h.fG, h.pm, h.pG, h.mG,
    (hS.cell (p := ⟨p, 0, none⟩) hp hpn).trans h.c0, (hS.cell (p := ⟨p, 1, none⟩) hp hpn).trans h.c1, (hS.cell (p := ⟨p, 2, none⟩) hp hpn).trans h.c2, (hS.cell (p := ⟨p, 3, none⟩) hp hpn).trans h.c3, (hS.cell (p := ⟨p, 4, none⟩) hp hpn).trans h.c4,
    hP, hM, fun t => ?_, fun t g hg => ?_, fun t t' g hg hg' => ?_, fun t => ?_, fun t => ?_, fun t t' j j' m hj hj' => ?_⟩
  · by_cases e : t = q
    · subst e; rw [upd_same, upd_same]; exact hR
    · rw [upd_other _ _ e, upd_other _ _ e]
      refine (h.row t).sans hS (fun g hg => ?_)
      rintro (e2 | e2)
      · exact (h.blk t g hg).2.2.2 e2
      · exact (h.blk t g hg).2.2.1 e2
  · by_cases e : t = q
    · subst e
      rw [upd_same] at hg
      exact h.blk t g (hv g hg)
    · rw [upd_other _ _ e] at hg
      exact h.blk t g hg
  · have back : ∀ {t : Pl} {g : Nat}, vblk (upd V q v' t) g → vblk (V t) g := by
      intro t g hg
      by_cases e : t = q
      · subst e
        rw [upd_same] at hg
        exact hv g hg
      · rw [upd_other _ _ e] at hg
        exact hg
    exact h.one t t' g (back hg) (back hg')
  · by_cases e : t = q
    · rw [e, upd_same]
      have := h.len q
      rw [hsl] at this
      simp at this
      omega
    · rw [upd_other _ _ e]
      have := h.len t
      omega
  · by_cases e : t = q
    · rw [e, upd_same, upd_same]
      have hh := h.held q
      rw [hsl, hx] at hh
      refine hh.tail.keep (fun j ej => ?_)
      have := (h.once q q 0 (j + 1) k hk0 (by rw [hsl]; simpa using ej)).2
      omega
    · rw [upd_other _ _ e, upd_other _ _ e]
      exact (h.held t).keep (fun j ej => e (h.once t q j 0 k ej hk0).1)
  · have news : ∀ {t : Pl} {j m : Nat}, (upd sl q sr t)[j]? = some m → (t = q ∧ (sl q)[j + 1]? = some m) ∨ (t ≠ q ∧ (sl t)[j]? = some m) := by
      intro t j m hj
      by_cases e : t = q
      · rw [e, upd_same] at hj
        exact .inl ⟨e, by rw [hsl]; simpa using hj⟩
      · rw [upd_other _ _ e] at hj
        exact .inr ⟨e, hj⟩
    rcases news hj with ⟨h1, h2⟩ | ⟨h1, h2⟩ <;> rcases news hj' with ⟨h1', h2'⟩ | ⟨h1', h2'⟩
    · have := (h.once q q _ _ m h2 h2').2
      exact ⟨by rw [h1, h1'], by omega⟩
    · exact absurd (h.once q t' _ _ m h2 h2').1.symm h1'
    · exact absurd (h.once t q _ _ m h2 h2').1 h1
    · exact h.once t t' j j' m h2 h2'
set_option maxHeartbeats 2000000 in
set_option maxRecDepth 100000 in
theorem sbehead (h : RIn w F G p pp mb P L n S E c V sl Qs) (hc : c < 1000) (i o l : Int) (hq : Wf (i, o, l)) (x : Pk) (r : List Pk) (hx : Qs (i, o, l) = x :: r) :
    Calls Try.prog 25 #[.pointer (some ⟨p, 3, none⟩), .agg #[.int .i64 i, .int .i64 o, .int .i64 l]] w fun e w' => e = .returned (.tuple #[]) ∧ ∃ k V' sl', RIn w' F G p pp mb P L n (S.set k none) (E ++ [k]) (c + 1) V' sl' (upd Qs (i, o, l) r) ∧ Sans F w w' := by
  obtain ⟨k, sr, hsl, hSk⟩ := (h.held (i, o, l)).first hx
  obtain ⟨g, off, cap, hV, hcg, hcap, hcm, hgl⟩ := h.consV hsl
  obtain ⟨m, hm⟩ : ∃ m, sr.length = m := ⟨_, rfl⟩
  rw [hm] at hV hcap
  have hvg : vblk (V (i, o, l)) g := ⟨_, _, _, hV⟩
  obtain ⟨gF, gp, gm, gG⟩ := h.blk _ g hvg
  obtain ⟨W, hW⟩ : ∃ W, W = w.alloc (.cells #[.int .i64 i, .int .i64 o, .int .i64 l] 51) := ⟨_, rfl⟩
  have bel : Below w.heap.size w W := by rw [hW]; exact fresh _ _
  have h2 := h.below bel
  have hc4 := h2.c4
  have hc3 := h2.c3
  have hb0 : W.cell? ⟨w.heap.size, 0, none⟩ = some (.int .i64 i) := by rw [hW]; simp
  have hb1 : W.cell? ⟨w.heap.size, 1, none⟩ = some (.int .i64 o) := by rw [hW]; simp
  have hb2 : W.cell? ⟨w.heap.size, 2, none⟩ = some (.int .i64 l) := by rw [hW]; simp
  have hcgW : W.cell? ⟨g, off, none⟩ = some (.int .i64 (k : Nat)) := (bel.cell (p := ⟨g, off, none⟩) hgl).trans hcg
  have hl : (Instr.lookup 52 (.map (some mb)) (.agg #[.int .i64 i, .int .i64 o, .int .i64 l]) false).run Try.prog W.drew = .ok (.slice (some ⟨g, off, none⟩) (m + 1) cap) W.drew := by
    have := (h2.below (drewN_below W 1)).map.look hq
    rw [hV] at this
    exact this
  have HB : Hid (Below w.heap.size w W) := bel
  have H0 : Hid (RIn w F G p pp mb P L n S E c V sl Qs ∧ sl (i, o, l) = k :: sr ∧ Qs (i, o, l) = x :: r ∧ sr.length = m ∧ V (i, o, l) = .slice (some ⟨g, off, none⟩) (m + 1) cap) := ⟨h, hsl, hx, hm, hV⟩
  have HR : Hid (RIn W F G p pp mb P L n S E c V sl Qs) := h2
  have HP : Hid (PoolAt W G pp n S E ∧ S[k]? = some (some x)) := ⟨h2.pool, hSk⟩
  have HC : Hid (Box3 W p mb w.heap.size i o l) := ⟨hc4, hb0, hb1, hb2⟩
  have hpl : p < W.heap.size := h2.foot p h2.fp
  have hgl2 : g < W.heap.size := Nat.lt_of_lt_of_le hgl bel.size
  have nG : ∀ j, w.heap.size ≤ j → ¬ G j := fun j hj e => by have := h.foot j (h.fG j e); omega
  have hm0 : 0 < m + 1 := by omega
  have HCM : Hid (cap ≤ maxLen) := hcm
  unfold maxLen at hcm
  have hmx : m ≤ 9223372036854775806 := by omega
  have hpm := h.pm
  have hwm : ¬ w.heap.size = mb := by have := h.foot mb h.fm; omega
  clear h h2 hx bel hsl hSk hcg hm hV hvg
  go_enter Try.func25, Try.ntmps25
  go_wp2_with fail
  rw [← hW]
  clear hW
  go_region_held3 (fun w' => w'.cell? ⟨p, 4, none⟩ = some (.map (some mb)) ∧ w'.cell? ⟨w.heap.size, 0, none⟩ = some (.int .i64 i) ∧ w'.cell? ⟨w.heap.size, 1, none⟩ = some (.int .i64 o) ∧ w'.cell? ⟨w.heap.size, 2, none⟩ = some (.int .i64 l) ∧ (Instr.lookup 52 (.map (some mb)) (.agg #[.int .i64 i, .int .i64 o, .int .i64 l]) false).run Try.prog w' = .ok (.slice (some ⟨g, off, none⟩) (m + 1) cap) w') (go_keep) (fail)
  go_wp2_with fail
  clear hl
  go_region_held3 (fun w' => w'.cell? ⟨p, 3, none⟩ = some (.pointer (some ⟨pp, 0, none⟩)) ∧ w'.cell? ⟨g, off, none⟩ = some (.int .i64 (k : Nat))) (go_keep)
    (first | (go_at_call 32; refine (drop_yes (HP.out.1.below (drewN_below _ 2)) HP.out.2).mono ?_; rintro e u ⟨rfl, hP, hs⟩; have k3 : u.cell? ⟨p, 3, none⟩ = some (.pointer (some ⟨pp, 0, none⟩)) := (hs.cell (p := ⟨p, 3, none⟩) hpl HR.out.pG).trans hc3; have kg : u.cell? ⟨g, off, none⟩ = some (.int .i64 (k : Nat)) := (hs.cell (p := ⟨g, off, none⟩) hgl2 gG).trans hcgW; have HU : Hid (PoolAt u G pp n (S.set k none) (E ++ [k]) ∧ Sans G W u) := ⟨hP, (Sans.drewN W 2).then hs⟩; clear hP hs))
  clear hc3 hc4 hb0 hb1 hb2 hcgW k3 kg
  have HC2 : Hid (Box3 u p mb w.heap.size i o l) := HC.out.sans HU.out.2 HR.out.pG (nG _ (Nat.le_refl _))
  have HM : Hid (QMap u mb c V) := HR.out.map.sans HU.out.2 HR.out.mG
  have HQ : Hid (QRow u (.slice (some ⟨g, off, none⟩) (m + 1) cap) (k :: sr)) := by
    have := (HR.out.row (i, o, l)).sans HU.out.2 (fun g hg => (HR.out.blk _ g hg).2.2.2)
    rw [H0.out.2.1, H0.out.2.2.2.2] at this
    exact this
  obtain ⟨hcu, hb0, hb1, hb2⟩ := HC2.out
  go_wp2_with fail
  · have h0 : m = 0 := by
      have hh : ((m : Int) + 1 == 1) = true := by assumption
      simp at hh
      omega
    subst h0
    go_region_held3 (fun w' => w'.cell? ⟨p, 4, none⟩ = some (.map (some mb)) ∧ w'.cell? ⟨w.heap.size, 0, none⟩ = some (.int .i64 i) ∧ w'.cell? ⟨w.heap.size, 1, none⟩ = some (.int .i64 o) ∧ w'.cell? ⟨w.heap.size, 2, none⟩ = some (.int .i64 l)) (first | exact ck1 | exact HC2.out.below (drewN_below u 1) | go_keep)
      (first | (refine step_strike rfl (.tmp 25) (.tmp 26) rfl mb c V rfl (HM.out.sans (F := fun _ => False) (Sans.of_below (drewN_below u 1)) (fun e => e)) (i, o, l) hq rfl ?_; intro u1 hM1 hs1; have ck1 : Box3 u1 p mb w.heap.size i o l := (HC2.out.below (drewN_below u 1)).sans hs1 hpm hwm; have HZ : Hid (QMap u1 mb c (upd V (i, o, l) nilS) ∧ Sans (fun k => k = mb) u u1) := ⟨hM1, (Sans.drewN u 1).then hs1⟩; clear hM1 hs1))
    go_wp2_with fail
    refine bodyPost_ret (v := .tuple #[]) (by simp [results, Try.results25, go_sem]) rfl ?_
    obtain ⟨h, hsl, hx, hm, hV⟩ := H0.out
    obtain ⟨z1, z2⟩ := HZ.out
    obtain ⟨t1, t2⟩ := HU.out
    have hsr : sr = [] := List.length_eq_zero_iff.1 hm
    subst hsr
    have s01 : Sans (fun j => G j ∨ j = mb) w u1 := ((Sans.of_below HB.out).then (t2.mono (fun j e => .inl e))).then (z2.mono (fun j e => .inr e))
    refine ⟨rfl, k, _, _, RIn.popped h hsl hx (fun g hg => absurd hg vblk_nil) s01 (t1.sans z2 (fun j hj e => h.mG (e ▸ hj))) (z1.mono (Nat.le_succ _)) (QRow.nil _), s01.mono ?_⟩
    rintro j (e | e)
    · exact h.fG j e
    · rw [e]; exact h.fm
  · have hh : ¬ ((m : Int) + 1 == 1) = true := by first | assumption | (intro e; simp_all; done)
    obtain ⟨m1, rfl⟩ : ∃ m1, m = m1 + 1 := ⟨m - 1, by
      have h0 : ¬ m = 0 := by
        intro e
        subst e
        exact hh rfl
      omega⟩
    obtain ⟨cp, rfl⟩ : ∃ cp, cap = cp + 1 := ⟨cap - 1, by omega⟩
    have hcp : ¬ cp + 1 = 1 := by omega
    have hcp2 : (1 : Int) ≤ (m1 : Int) + 1 + 1 := by omega
    obtain ⟨u1, hst, hM1, hs1⟩ := QMap.store (HM.out.sans (F := fun _ => False) (Sans.of_below (drewN_below u 1)) (fun e => e)) hq (.slice (some ⟨g, off + 1, none⟩) (m1 + 1) cp) (by unfold maxLen; omega)
    have hst1 : (Instr.mapUpdate 52 (.map (some mb)) (.agg #[.int .i64 i, .int .i64 o, .int .i64 l]) (.slice (some ⟨g, off + 1, none⟩) (m1 + 1) cp)).run Try.prog u.drew = .ok () u1 := hst
    have ck1 : Box3 u1 p mb w.heap.size i o l := (HC2.out.below (drewN_below u 1)).sans hs1 hpm hwm
    have HZ : Hid (QMap u1 mb (c + 1) (upd V (i, o, l) (.slice (some ⟨g, off + 1, none⟩) (m1 + 1) cp)) ∧ Sans (fun k => k = mb) u u1) := ⟨hM1, (Sans.drewN u 1).then hs1⟩
    clear hM1 hs1 hst
    go_region_held3 (fun w' => w'.cell? ⟨p, 4, none⟩ = some (.map (some mb)) ∧ w'.cell? ⟨w.heap.size, 0, none⟩ = some (.int .i64 i) ∧ w'.cell? ⟨w.heap.size, 1, none⟩ = some (.int .i64 o) ∧ w'.cell? ⟨w.heap.size, 2, none⟩ = some (.int .i64 l)) (first | exact ck1 | exact HC2.out.below (drewN_below u 1) | go_keep) (fail)
    go_wp2_with fail
    go_end0
    obtain ⟨h, hsl, hx, hm, hV⟩ := H0.out
    obtain ⟨z1, z2⟩ := HZ.out
    obtain ⟨t1, t2⟩ := HU.out
    have s01 : Sans (fun j => G j ∨ j = mb) w u1 := ((Sans.of_below HB.out).then (t2.mono (fun j e => .inl e))).then (z2.mono (fun j e => .inr e))
    have hR : QRow u1 (.slice (some ⟨g, off + 1, none⟩) (m1 + 1) cp) sr := by
      have hq0 := HQ.out
      rw [← hm] at hq0 ⊢
      exact hq0.tail.sans z2 (fun g' hg' e => gm (by rw [← vblk_some hg']; exact e))
    refine ⟨rfl, k, _, _, RIn.popped h hsl hx (fun g' hg' => by rw [vblk_some hg', hV]; exact ⟨_, _, _, rfl⟩) s01 (t1.sans z2 (fun j hj e => h.mG (e ▸ hj))) z1 hR, s01.mono ?_⟩
    rintro j (e | e)
    · exact h.fG j e
    · rw [e]; exact h.fm
end
end Go.Proofs.Ytpbeldcaiceakaa
