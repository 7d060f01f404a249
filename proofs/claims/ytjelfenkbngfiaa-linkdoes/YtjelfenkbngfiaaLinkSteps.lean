/-
  One call on the program's link, one on the document's, in any order: what each answers and leaves, as functions of what is on its way. Conditions: that package link comes to its contracts (LinkSpec).
-/
import Derived.Test.YtjelfenkbngfiaaLinkBoth
namespace Go.Proofs.Ytjelfenkbngfiaa
open Go.ChangeShapes Go.WideShapes Go.ChangeAt Go.RowKit
set_option linter.unusedVariables false
variable {L : World → (Nat → Prop) → Nat → Nat → List (List Nat) → Prop}

/-- the program's link holds ts1, the document's ts2; the call v lies in block bx, which is neither's -/
def St (L : World → (Nat → Prop) → Nat → Nat → List (List Nat) → Prop) (w0 w : World) (p q room : Nat) (ts1 ts2 : List (List Nat)) (bx : Nat) (v : OpV) : Prop :=
  ∃ F G rs a cap, Pair L w0 w F G p q room ts1 rs a cap ∧ texts rs = ts2 ∧ ¬ F bx ∧ ¬ G bx ∧ OpAt w bx 0 v ∧ v.ok w0
theorem OpAt.sans {F : Nat → Prop} {w w' w0 : World} {bx : Nat} {v : OpV} (h : OpAt w bx 0 v) (k : Sans F w w') (hn : ¬ F bx) (hv : v.ok w0) (hb : Below w0.heap.size w0 w') : OpAt w' bx 0 v := by
  have hlt : bx < w.heap.size := cell_lt h.1
  have e : ∀ o, w'.cell? ⟨bx, o, none⟩ = w.cell? ⟨bx, o, none⟩ := fun o => k.cell (p := ⟨bx, o, none⟩) hlt hn
  obtain ⟨h1, h2, h3, h4, h5, _⟩ := h
  exact ⟨(e _).trans h1, (e _).trans h2, (e _).trans h3, (e _).trans h4, (e _).trans h5, hv.below hb⟩
theorem St.link {w0 w w' : World} {p q room : Nat} {ts1 ts1' ts2 : List (List Nat)} {bx : Nat} {v : OpV} {F G F' : Nat → Prop} {rs : List RowV} {a : Option Addr} {cap : Nat} (h : Pair L w0 w F G p q room ts1 rs a cap) (ht : texts rs = ts2) (hF : ¬ F bx) (hG : ¬ G bx) (hat : OpAt w bx 0 v) (hv : v.ok w0)
    (hL : L w' F' p room ts1') (g : Grows F w F' w') : St L w0 w' p q room ts1' ts2 bx v := by
  have h' := h.on_link hL g
  exact ⟨F', G, rs, a, cap, h', ht, fun e => (g.2 bx e).elim hF (fun e => by have := cell_lt hat.1; simp at this; omega), hG, hat.sans g.1 hF hv h'.below, hv⟩
theorem St.doc (S : LinkSpec L) {w0 w w' : World} {p q room : Nat} {ts1 ts2' : List (List Nat)} {bx : Nat} {v : OpV} {F G G' : Nat → Prop} {rs rs' : List RowV} {a a' : Option Addr} {cap cap' : Nat} (h : Pair L w0 w F G p q room ts1 rs a cap) (hF : ¬ F bx) (hG : ¬ G bx) (hat : OpAt w bx 0 v) (hv : v.ok w0)
    (hR : RefAt w' G' q room rs' a' cap') (ht : texts rs' = ts2') (g : Grows G w G' w') : St L w0 w' p q room ts1 ts2' bx v := by
  have h' := h.on_doc S hR g
  exact ⟨F, G', rs', a', cap', h', ht, hF, fun e => (g.2 bx e).elim hG (fun e => by have := cell_lt hat.1; simp at this; omega), hat.sans g.1 hG hv h'.below, hv⟩
theorem St.later (S : LinkSpec L) {w0 w w' : World} {p q room : Nat} {ts1 ts2 : List (List Nat)} {bx : Nat} {v : OpV} (h : St L w0 w p q room ts1 ts2 bx v) (k : Below w.heap.size w w') : St L w0 w' p q room ts1 ts2 bx v := by
  obtain ⟨F, G, rs, a, cap, h, ht, hF, hG, hat, hv⟩ := h
  exact ⟨F, G, rs, a, cap, h.later S k, ht, hF, hG, hat.below k, hv⟩
theorem texts_length {rs : List RowV} {ts : List (List Nat)} (h : texts rs = ts) : rs.length = ts.length := by rw [← h]; unfold texts; rw [List.length_map]

def sendT (room : Nat) (l : List Nat) (ts : List (List Nat)) : List (List Nat) := if ts.length < room then ts ++ [l] else ts
theorem st_send_link (S : LinkSpec L) {w0 w : World} {p q room : Nat} {ts1 ts2 : List (List Nat)} {bx : Nat} {v : OpV} (h : St L w0 w p q room ts1 ts2 bx v) (hl : v.len ≤ 1000000) :
    Calls Try.prog 14 #[.pointer (some ⟨p, 0, none⟩), .slice v.a v.len v.cap] w fun e w' => e = .returned (.bool (decide (ts1.length < room))) ∧ St L w0 w' p q room (sendT room v.l ts1) ts2 bx v := by
  obtain ⟨F, G, rs, a, cap, h, ht, hF, hG, hat, hv⟩ := h
  have hok : v.ok w := hat.2.2.2.2.2
  by_cases hr : ts1.length < room
  · refine (S.send_room v.a v.len v.cap v.l h.link hr hok.1 hok.2.1 hl).mono ?_
    rintro e w' ⟨F', rfl, hL, g⟩
    rw [decide_eq_true hr]
    unfold sendT
    rw [if_pos hr]
    exact ⟨rfl, St.link h ht hF hG hat hv hL g⟩
  · refine (S.send_full v.a v.len v.cap v.l h.link (by omega) hok.1 hok.2.1 hl).mono ?_
    rintro e w' ⟨F', rfl, hL, g⟩
    rw [decide_eq_false hr]
    unfold sendT
    rw [if_neg hr]
    exact ⟨rfl, St.link h ht hF hG hat hv hL g⟩
theorem st_send_doc (S : LinkSpec L) {w0 w : World} {p q room : Nat} {ts1 ts2 : List (List Nat)} {bx : Nat} {v : OpV} (h : St L w0 w p q room ts1 ts2 bx v) (hl : v.len ≤ 1000000) :
    Calls Try.prog 22 #[.pointer (some ⟨q, 0, none⟩), .slice v.a v.len v.cap] w fun e w' => e = .returned (.bool (decide (ts2.length < room))) ∧ St L w0 w' p q room ts1 (sendT room v.l ts2) bx v := by
  have h0 := h
  obtain ⟨F, G, rs, a, cap, h, ht, hF, hG, hat, hv⟩ := h
  have hok : v.ok w := hat.2.2.2.2.2
  have hle := texts_length ht
  by_cases hr : ts2.length < room
  · refine (refSend_room q room G rs a cap v.a v.len v.cap v.l w h.doc (by omega) hok.1 hok.2.1 hl).mono ?_
    rintro e w' ⟨G', r, a', cap', rfl, hR, hrl, hrn, g⟩
    rw [decide_eq_true hr]
    unfold sendT
    rw [if_pos hr]
    exact ⟨rfl, St.doc S h hF hG hat hv hR (by rw [← ht, ← hrl]; unfold texts; rw [List.map_append]; rfl) g⟩
  · refine (refSend_full q room G rs a cap v.a v.len v.cap w h.doc (by omega)).mono ?_
    rintro e w' ⟨rfl, n, rfl⟩
    rw [decide_eq_false hr]
    unfold sendT
    rw [if_neg hr]
    exact ⟨rfl, h0.later S (drewN_below _ _)⟩
def twiceT (room : Nat) (z : Int) (ts : List (List Nat)) : List (List Nat) := if 0 ≤ z ∧ z < ts.length ∧ ts.length < room then ts ++ [ts.getD z.toNat []] else ts
theorem st_twice_link (S : LinkSpec L) {w0 w : World} {p q room : Nat} {ts1 ts2 : List (List Nat)} {bx : Nat} {v : OpV} (h : St L w0 w p q room ts1 ts2 bx v) :
    Calls Try.prog 16 #[.pointer (some ⟨p, 0, none⟩), .int .i64 v.i] w fun e w' => e = .returned (.bool (decide (0 ≤ v.i ∧ v.i < ts1.length ∧ ts1.length < room))) ∧ St L w0 w' p q room (twiceT room v.i ts1) ts2 bx v := by
  obtain ⟨F, G, rs, a, cap, h, ht, hF, hG, hat, hv⟩ := h
  have hok : v.ok w := hat.2.2.2.2.2
  obtain ⟨_, _, _, _, _, _, hi1, hi2, _, _⟩ := hok
  by_cases hr : 0 ≤ v.i ∧ v.i < ts1.length ∧ ts1.length < room
  · obtain ⟨i, hi⟩ := Int.eq_ofNat_of_zero_le hr.1
    have q1 := S.twice_yes i h.link (by omega) hr.2.2
    unfold twiceT
    rw [decide_eq_true hr, if_pos hr, hi, show ((i : Int).toNat) = i by omega]
    refine q1.mono ?_
    rintro e w' ⟨F', rfl, hL, g⟩
    exact ⟨rfl, St.link h ht hF hG hat hv hL g⟩
  · refine (S.twice_no v.i h.link ⟨hi1, hi2⟩ (by omega)).mono ?_
    rintro e w' ⟨F', rfl, hL, g⟩
    rw [decide_eq_false hr]
    unfold twiceT
    rw [if_neg hr]
    exact ⟨rfl, St.link h ht hF hG hat hv hL g⟩
theorem st_twice_doc (S : LinkSpec L) {w0 w : World} {p q room : Nat} {ts1 ts2 : List (List Nat)} {bx : Nat} {v : OpV} (h : St L w0 w p q room ts1 ts2 bx v) :
    Calls Try.prog 20 #[.pointer (some ⟨q, 0, none⟩), .int .i64 v.i] w fun e w' => e = .returned (.bool (decide (0 ≤ v.i ∧ v.i < ts2.length ∧ ts2.length < room))) ∧ St L w0 w' p q room ts1 (twiceT room v.i ts2) bx v := by
  have h0 := h
  obtain ⟨F, G, rs, a, cap, h, ht, hF, hG, hat, hv⟩ := h
  have hle := texts_length ht
  by_cases hr : 0 ≤ v.i ∧ v.i < ts2.length ∧ ts2.length < room
  · obtain ⟨i, hi⟩ := Int.eq_ofNat_of_zero_le hr.1
    have q1 := refTwice_room q room G rs a cap i w h.doc (by omega) (by omega)
    unfold twiceT
    rw [decide_eq_true hr, if_pos hr, hi, show ((i : Int).toNat) = i by omega]
    refine q1.mono ?_
    rintro e w' ⟨G', r, a', cap', rfl, hR, hrl, hrn, g⟩
    exact ⟨rfl, St.doc S h hF hG hat hv hR (by rw [← texts_getD ht, ← hrl, ← ht]; unfold texts; rw [List.map_append]; rfl) g⟩
  · unfold twiceT
    rw [decide_eq_false hr, if_neg hr]
    by_cases hz : v.i < 0 ∨ (rs.length : Int) ≤ v.i
    · refine (refTwice_none q room G rs a cap v.i w h.doc hz).mono ?_
      rintro e w' ⟨rfl, rfl⟩
      exact ⟨rfl, h0⟩
    · obtain ⟨i, hi⟩ := Int.eq_ofNat_of_zero_le (show 0 ≤ v.i by omega)
      have q1 := refTwice_full q room G rs a cap i w h.doc (by omega) (by omega)
      rw [hi]
      refine q1.mono ?_
      rintro e w' ⟨rfl, n, rfl⟩
      exact ⟨rfl, h0.later S (drewN_below _ _)⟩
end Go.Proofs.Ytjelfenkbngfiaa
