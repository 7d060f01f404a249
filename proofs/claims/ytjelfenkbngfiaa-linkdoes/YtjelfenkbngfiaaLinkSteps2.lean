/-
  As LinkSteps: Bend and Take. Conditions: that package link comes to its contracts (LinkSpec).
-/
import Derived.Test.YtjelfenkbngfiaaLinkSteps
namespace Go.Proofs.Ytjelfenkbngfiaa
open Go.ChangeShapes Go.WideShapes Go.ChangeAt Go.RowKit
set_option linter.unusedVariables false
variable {L : World → (Nat → Prop) → Nat → Nat → List (List Nat) → Prop}

theorem row_len {w : World} {rs : List RowV} {ts : List (List Nat)} (ht : texts rs = ts) (h : ∀ r ∈ rs, r.ok w) {i : Nat} (hi : i < rs.length) : (rs.getD i zrow).len = (ts.getD i []).length := by
  rw [← texts_getD ht]
  have hm : rs.getD i zrow ∈ rs := by rw [List.getD_eq_getElem?_getD, List.getElem?_eq_getElem hi]; exact List.getElem_mem _
  exact (h _ hm).1.1.symm
abbrev canBend (v : OpV) (ts : List (List Nat)) : Prop := 0 ≤ v.i ∧ v.i < ts.length ∧ 0 ≤ v.t ∧ v.x ≠ 0 ∧ ts.getD v.i.toNat [] ≠ []
def bendT (v : OpV) (ts : List (List Nat)) : List (List Nat) := if canBend v ts then ts.set v.i.toNat (bentRow (ts.getD v.i.toNat []) v.t.toNat v.x) else ts
theorem cannot {v : OpV} {ts : List (List Nat)} (h : ¬ canBend v ts) : v.i < 0 ∨ (ts.length : Int) ≤ v.i ∨ v.t < 0 ∨ v.x = 0 ∨ ∃ i : Nat, v.i = i ∧ i < ts.length ∧ ts.getD i [] = [] := by
  by_cases h1 : v.i < 0
  · exact .inl h1
  by_cases h2 : (ts.length : Int) ≤ v.i
  · exact .inr (.inl h2)
  by_cases h3 : v.t < 0
  · exact .inr (.inr (.inl h3))
  by_cases h4 : v.x = 0
  · exact .inr (.inr (.inr (.inl h4)))
  refine .inr (.inr (.inr (.inr ⟨v.i.toNat, by omega, by omega, ?_⟩)))
  exact Classical.byContradiction fun h5 => h ⟨by omega, by omega, by omega, h4, h5⟩
theorem st_bend_link (S : LinkSpec L) {w0 w : World} {p q room : Nat} {ts1 ts2 : List (List Nat)} {bx : Nat} {v : OpV} (h : St L w0 w p q room ts1 ts2 bx v) :
    Calls Try.prog 17 #[.pointer (some ⟨p, 0, none⟩), .int .i64 v.i, .int .i64 v.t, .int .u8 v.x] w fun e w' => e = .returned (.bool (decide (canBend v ts1))) ∧ St L w0 w' p q room (bendT v ts1) ts2 bx v := by
  obtain ⟨F, G, rs, a, cap, h, ht, hF, hG, hat, hv⟩ := h
  obtain ⟨_, _, _, _, _, hx, hi1, hi2, ht1, ht2⟩ := id hv
  by_cases hr : canBend v ts1
  · have hr' := hr
    obtain ⟨c1, c2, c3, c4, c5⟩ := hr'
    have q1 := S.bend_yes v.i.toNat v.t.toNat v.x h.link (by omega) c5 c4 hx (by omega)
    rw [show ((v.i.toNat : Nat) : Int) = v.i by omega, show ((v.t.toNat : Nat) : Int) = v.t by omega] at q1
    unfold bendT
    rw [decide_eq_true hr, if_pos hr]
    refine q1.mono ?_
    rintro e w' ⟨F', rfl, hL, g⟩
    exact ⟨rfl, St.link h ht hF hG hat hv hL g⟩
  · refine (S.bend_no v.i v.t v.x h.link ⟨hi1, hi2⟩ ⟨ht1, ht2⟩ hx (cannot hr)).mono ?_
    rintro e w' ⟨F', rfl, hL, g⟩
    rw [decide_eq_false hr]
    unfold bendT
    rw [if_neg hr]
    exact ⟨rfl, St.link h ht hF hG hat hv hL g⟩
theorem st_bend_doc (S : LinkSpec L) {w0 w : World} {p q room : Nat} {ts1 ts2 : List (List Nat)} {bx : Nat} {v : OpV} (h : St L w0 w p q room ts1 ts2 bx v) :
    Calls Try.prog 21 #[.pointer (some ⟨q, 0, none⟩), .int .i64 v.i, .int .i64 v.t, .int .u8 v.x] w fun e w' => e = .returned (.bool (decide (canBend v ts2))) ∧ St L w0 w' p q room ts1 (bendT v ts2) bx v := by
  have h0 := h
  obtain ⟨F, G, rs, a, cap, h, ht, hF, hG, hat, hv⟩ := h
  obtain ⟨_, _, _, _, _, hx, hi1, hi2, ht1, ht2⟩ := id hv
  have hle := texts_length ht
  have hrow : ∀ r ∈ rs, r.ok w := fun r hm => (h.doc.rows r hm).1
  by_cases hr : canBend v ts2
  · have hr' := hr
    obtain ⟨c1, c2, c3, c4, c5⟩ := hr'
    have hlen := row_len ht hrow (i := v.i.toNat) (by omega)
    have q1 := refBend_some q room G rs a cap v.i.toNat v.t.toNat v.x w h.doc (by omega) (by rw [hlen]; exact List.length_pos_iff.2 c5) c4 hx (by omega)
    rw [show ((v.i.toNat : Nat) : Int) = v.i by omega, show ((v.t.toNat : Nat) : Int) = v.t by omega] at q1
    unfold bendT
    rw [decide_eq_true hr, if_pos hr]
    refine q1.mono ?_
    rintro e w' ⟨G', r, a', cap', rfl, hR, hrn, hrl, g⟩
    refine ⟨rfl, St.doc S h hF hG hat hv hR ?_ g⟩
    rw [hlen, texts_getD ht] at hrl
    unfold texts
    rw [List.map_set, hrl]
    unfold texts at ht
    rw [ht]
    rfl
  · unfold bendT
    rw [decide_eq_false hr, if_neg hr]
    refine (refBend_none q room G rs a cap v.x v.i v.t w h.doc hx ?_).mono ?_
    · rcases cannot hr with c | c | c | c | ⟨i, c1, c2, c3⟩
      · exact .inl c
      · exact .inr (.inl (by omega))
      · exact .inr (.inr (.inl c))
      · exact .inr (.inr (.inr (.inl c)))
      · exact .inr (.inr (.inr (.inr ⟨i, c1, by omega, by rw [row_len ht hrow (by omega), c3]; rfl⟩)))
    · rintro e w' ⟨rfl, rfl⟩
      exact ⟨rfl, h0⟩
abbrev canTake (z : Int) (ts : List (List Nat)) : Prop := 0 ≤ z ∧ z < ts.length
def takeT (z : Int) (ts : List (List Nat)) : List (List Nat) := if canTake z ts then ts.eraseIdx z.toNat else ts
def tookT (z : Int) (ts : List (List Nat)) : List Nat := if canTake z ts then ts.getD z.toNat [] else []
/-- as St, and the bytes that the program's link has handed out, which are not the document's -/
def Taken (L : World → (Nat → Prop) → Nat → Nat → List (List Nat) → Prop) (w0 w : World) (p q room : Nat) (ts1 ts2 : List (List Nat)) (bx : Nat) (v : OpV) (ra : Option Addr) (n : Nat) (l : List Nat) : Prop :=
  ∃ F G rs a cap, Pair L w0 w F G p q room ts1 rs a cap ∧ texts rs = ts2 ∧ ¬ F bx ∧ ¬ G bx ∧ OpAt w bx 0 v ∧ v.ok w0 ∧ Octs w ra n l ∧ (0 < n → ∀ ad, ra = some ad → ¬ G ad.block)
theorem Octs.sans0 {F : Nat → Prop} {w w' : World} {a : Option Addr} {len : Nat} {l : List Nat} (h : Octs w a len l) (k : Sans F w w') (hn : 0 < len → ∀ ad, a = some ad → ¬ F ad.block) : Octs w' a len l := by
  by_cases h0 : 0 < len
  · exact h.sans k (hn h0)
  · exact ⟨h.1, h.2.1, h.2.2.1, .inl (by omega)⟩
theorem st_take_link (S : LinkSpec L) {w0 w : World} {p q room : Nat} {ts1 ts2 : List (List Nat)} {bx : Nat} {v : OpV} (h : St L w0 w p q room ts1 ts2 bx v) :
    Calls Try.prog 15 #[.pointer (some ⟨p, 0, none⟩), .int .i64 v.i] w fun e w' => ∃ ra n c, e = .returned (.tuple #[.slice ra n c, .bool (decide (canTake v.i ts1))]) ∧ Taken L w0 w' p q room (takeT v.i ts1) ts2 bx v ra n (tookT v.i ts1) := by
  obtain ⟨F, G, rs, a, cap, h, ht, hF, hG, hat, hv⟩ := h
  obtain ⟨_, _, _, _, _, hx, hi1, hi2, ht1, ht2⟩ := id hv
  by_cases hr : canTake v.i ts1
  · have hr' := hr
    obtain ⟨c1, c2⟩ := hr'
    have q1 := S.take_some v.i.toNat h.link (by omega)
    rw [show ((v.i.toNat : Nat) : Int) = v.i by omega] at q1
    unfold takeT tookT
    rw [decide_eq_true hr, if_pos hr, if_pos hr]
    refine q1.mono ?_
    rintro e w' ⟨F', ra, n, c, rfl, hL, g, ho, hab⟩
    have h' := h.on_link hL g
    exact ⟨ra, n, c, rfl, F', G, rs, a, cap, h', ht, fun e => (g.2 bx e).elim hF (fun e => by have := cell_lt hat.1; simp at this; omega), hG, hat.sans g.1 hF hv h'.below, hv, ho,
      fun _ ad e hg => (hab ad e).elim (fun k => h.apart _ k hg) (fun k => by have := h.doc.foot _ hg; omega)⟩
  · unfold takeT tookT
    rw [decide_eq_false hr, if_neg hr, if_neg hr]
    refine (S.take_none v.i h.link ⟨hi1, hi2⟩ (by unfold canTake at hr; omega)).mono ?_
    rintro e w' ⟨F', ra, n, c, rfl, hL, g, ho⟩
    have h' := h.on_link hL g
    exact ⟨ra, n, c, rfl, F', G, rs, a, cap, h', ht, fun e => (g.2 bx e).elim hF (fun e => by have := cell_lt hat.1; simp at this; omega), hG, hat.sans g.1 hF hv h'.below, hv, ho,
      fun k => by have := ho.1; simp at this; omega⟩
theorem st_take_doc (S : LinkSpec L) {w0 w : World} {p q room : Nat} {ts1 ts2 : List (List Nat)} {bx : Nat} {v : OpV} {ra : Option Addr} {n : Nat} {l : List Nat} (h : Taken L w0 w p q room ts1 ts2 bx v ra n l) :
    Calls Try.prog 19 #[.pointer (some ⟨q, 0, none⟩), .int .i64 v.i] w fun e w' => ∃ rb m c, e = .returned (.tuple #[.slice rb m c, .bool (decide (canTake v.i ts2))]) ∧ St L w0 w' p q room ts1 (takeT v.i ts2) bx v ∧ Octs w' ra n l ∧ Octs w' rb m (tookT v.i ts2) := by
  obtain ⟨F, G, rs, a, cap, h, ht, hF, hG, hat, hv, ho, hn⟩ := h
  have hle := texts_length ht
  by_cases hr : canTake v.i ts2
  · have hr' := hr
    obtain ⟨c1, c2⟩ := hr'
    have q1 := refTake_some q room G rs a cap v.i.toNat w h.doc (by omega)
    rw [show ((v.i.toNat : Nat) : Int) = v.i by omega] at q1
    unfold takeT tookT
    rw [decide_eq_true hr, if_pos hr, if_pos hr]
    refine q1.mono ?_
    rintro e w' ⟨G', a', cap', rfl, hR, g, hok⟩
    refine ⟨_, _, _, rfl, St.doc S h hF hG hat hv hR ?_ g, ho.sans0 g.1 hn, by rw [← texts_getD ht]; exact hok.1⟩
    rw [← ht]
    unfold texts
    simp only [List.eraseIdx_eq_take_drop_succ, List.map_append, List.map_take, List.map_drop]
  · unfold takeT tookT
    rw [decide_eq_false hr, if_neg hr, if_neg hr]
    refine (refTake_none q room G rs a cap v.i w h.doc (by unfold canTake at hr; omega)).mono ?_
    rintro e w' ⟨rfl, rfl⟩
    exact ⟨none, 0, 0, rfl, ⟨F, G, rs, a, cap, h, ht, hF, hG, hat, hv⟩, ho, Octs.empty⟩
end Go.Proofs.Ytjelfenkbngfiaa
