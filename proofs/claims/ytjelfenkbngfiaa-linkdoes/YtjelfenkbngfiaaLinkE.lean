/-
  Package link, as it landed, is what LinkSpec says. Conditions: none.
-/
import Derived.Test.YtjelfenkbngfiaaLinkD
namespace Go.Proofs.Ytjelfenkbngfiaa
open Go.ChangeShapes Go.WideShapes Go.ChangeAt Go.RowKit
set_option linter.unusedVariables false

def LinkL (w : World) (F : Nat → Prop) (p room : Nat) (ts : List (List Nat)) : Prop := ∃ rs a cap, LinkAt w F p room rs a cap ∧ texts rs = ts
theorem texts_len (rs : List RowV) : (texts rs).length = rs.length := by simp [texts]
theorem texts_getD_row (rs : List RowV) (i : Nat) : (texts rs).getD i [] = (rs.getD i zrow).l := by
  unfold texts
  rw [List.getD_eq_getElem?_getD, List.getD_eq_getElem?_getD, List.getElem?_map]
  cases rs[i]? <;> rfl
theorem texts_snoc (rs : List RowV) (r : RowV) : texts (rs ++ [r]) = texts rs ++ [r.l] := by simp [texts]
theorem texts_erase (rs : List RowV) (i : Nat) : texts (rs.eraseIdx i) = (texts rs).eraseIdx i := by
  unfold texts
  rw [List.eraseIdx_eq_take_drop_succ, List.eraseIdx_eq_take_drop_succ, List.map_append, List.map_take, List.map_drop]
theorem texts_set (rs : List RowV) (i : Nat) (r : RowV) : texts (rs.set i r) = (texts rs).set i r.l := by unfold texts; rw [List.map_set]
theorem grows_drew (F : Nat → Prop) (w : World) (n : Nat) : Grows F w F (w.drewN n) := ⟨Sans.of_below (drewN_below w n), fun k hk => .inl hk⟩
theorem grows_same (F : Nat → Prop) (w : World) : Grows F w F w := ⟨Sans.refl F w, fun k hk => .inl hk⟩
theorem row_len_at {w : World} {F : Nat → Prop} {p room : Nat} {rs : List RowV} {a : Option Addr} {cap : Nat} (h : LinkAt w F p room rs a cap) {i : Nat} (hi : i < rs.length) : (rs.getD i zrow).l.length = (rs.getD i zrow).len := (h.rows _ (getD_mem_rows hi)).1.octs.1
theorem linkSpec : LinkSpec LinkL := by
  refine { foot := ?foot, size := ?size, sans := ?sans, new_good := ?new_good, new_bad := ?new_bad, send_full := ?send_full, send_room := ?send_room, take_none := ?take_none, take_some := ?take_some, twice_no := ?twice_no, twice_yes := ?twice_yes, bend_no := ?bend_no, bend_yes := ?bend_yes, all := ?all }
  case foot => rintro w F p room ts ⟨rs, a, cap, h, rfl⟩; exact h.foot
  case size => rintro w F p room ts ⟨rs, a, cap, h, rfl⟩; rw [texts_len]; exact h.room1
  case sans => rintro w w' F G p room ts ⟨rs, a, cap, h, rfl⟩ k hd; exact ⟨rs, a, cap, h.sans k hd, rfl⟩
  case new_good =>
    intro room w h
    refine (linkNew_good room h w).mono ?_
    rintro e w' ⟨rfl, h1, h2⟩
    exact ⟨_, _, rfl, ⟨[], none, 0, h1, rfl⟩, h2, fun k hk => by rw [hk]; exact Nat.le_refl _⟩
  case new_bad =>
    intro z w hz h
    refine (linkNew_bad z hz h w).mono ?_
    rintro e w' ⟨rfl, rfl⟩
    exact ⟨rfl, Below.refl _ _⟩
  case send_full =>
    rintro w F p room ts b len bc l ⟨rs, a, cap, h, rfl⟩ hf hb hbn hl
    rw [texts_len] at hf
    refine (linkSend_full p room F rs a cap b len bc w h hf).mono ?_
    rintro e w' ⟨rfl, n, rfl⟩
    exact ⟨F, rfl, ⟨rs, a, cap, h.below (drewN_below _ _), rfl⟩, grows_drew F w n⟩
  case send_room =>
    rintro w F p room ts b len bc l ⟨rs, a, cap, h, rfl⟩ hf hb hbn hl
    rw [texts_len] at hf
    refine (linkSend_room p room F rs a cap b len bc l w h hf hb hbn hl).mono ?_
    rintro e w' ⟨F', r, a', cap', rfl, h1, h2, h3, h4⟩
    exact ⟨F', rfl, ⟨_, a', cap', h1, by rw [texts_snoc, h2]⟩, h4⟩
  case take_none =>
    rintro w F p room ts z ⟨rs, a, cap, h, rfl⟩ hz hn
    rw [texts_len] at hn
    refine (linkTake_none p room F rs a cap z w h hn).mono ?_
    rintro e w' ⟨rfl, rfl⟩
    exact ⟨F, none, 0, 0, rfl, ⟨rs, a, cap, h, rfl⟩, grows_same F _, Octs.empty⟩
  case take_some =>
    rintro w F p room ts i ⟨rs, a, cap, h, rfl⟩ hi
    rw [texts_len] at hi
    refine (linkTake_some p room F rs a cap i w h hi).mono ?_
    rintro e w' ⟨rfl, h1, h2, h3⟩
    exact ⟨F, _, _, _, rfl, ⟨_, a, cap, h1, texts_erase rs i⟩, h2, by rw [texts_getD_row]; exact h3.1, fun ad e => .inl ((h.rows _ (getD_mem_rows hi)).2.2 ad e).1⟩
  case twice_no =>
    rintro w F p room ts z ⟨rs, a, cap, h, rfl⟩ hz hn
    rw [texts_len] at hn
    by_cases hc : z < 0 ∨ (rs.length : Int) ≤ z
    · refine (linkTwice_none p room F rs a cap z w h hc).mono ?_
      rintro e w' ⟨rfl, rfl⟩
      exact ⟨F, rfl, ⟨rs, a, cap, h, rfl⟩, grows_same F _⟩
    · obtain ⟨i, rfl⟩ : ∃ i : Nat, z = i := ⟨z.toNat, by omega⟩
      refine (linkTwice_full p room F rs a cap i w h (by omega) (by omega)).mono ?_
      rintro e w' ⟨rfl, n, rfl⟩
      exact ⟨F, rfl, ⟨rs, a, cap, h.below (drewN_below _ _), rfl⟩, grows_drew F w n⟩
  case twice_yes =>
    rintro w F p room ts i ⟨rs, a, cap, h, rfl⟩ hi hf
    rw [texts_len] at hi hf
    refine (linkTwice_room p room F rs a cap i w h hi hf).mono ?_
    rintro e w' ⟨F', r, a', cap', rfl, h1, h2, h3, h4⟩
    exact ⟨F', rfl, ⟨_, a', cap', h1, by rw [texts_snoc, h2, texts_getD_row]⟩, h4⟩
  case bend_no =>
    rintro w F p room ts z t x ⟨rs, a, cap, h, rfl⟩ hz ht hx hn
    rw [texts_len] at hn
    refine (linkBend_none p room F rs a cap x z t w h hx ?_).mono ?_
    · rcases hn with hn | hn | hn | hn | ⟨i, e, hi, hl⟩
      · exact .inl hn
      · exact .inr (.inl hn)
      · exact .inr (.inr (.inl hn))
      · exact .inr (.inr (.inr (.inl hn)))
      · rw [texts_getD_row] at hl
        refine .inr (.inr (.inr (.inr ⟨i, e, hi, ?_⟩)))
        rw [← row_len_at h hi, hl]
        rfl
    · rintro e w' ⟨rfl, rfl⟩
      exact ⟨F, rfl, ⟨rs, a, cap, h, rfl⟩, grows_same F _⟩
  case bend_yes =>
    rintro w F p room ts i t x ⟨rs, a, cap, h, rfl⟩ hi hl hx0 hx ht
    rw [texts_len] at hi
    rw [texts_getD_row] at hl ⊢
    have hrl := row_len_at h hi
    refine (linkBend_some p room F rs a cap i t x w h hi (by rw [← hrl]; exact List.length_pos_iff.2 hl) hx0 hx ht).mono ?_
    rintro e w' ⟨F', r, a', cap', rfl, h1, h2, h3, h4⟩
    exact ⟨F', rfl, ⟨_, a', cap', h1, by rw [texts_set, h3, hrl]⟩, h4⟩
  case all =>
    rintro w F p room ts ⟨rs, a, cap, h, rfl⟩
    rw [texts_len]
    refine (linkAll p room F rs a cap w h).mono ?_
    rintro e w' ⟨ss, rfl, h1, h2, h3⟩
    have := h.room1
    exact ⟨_, rs.length, ss, rfl, h1, h2, Nat.le_refl _, by omega, ⟨rs, a, cap, h.below h3, rfl⟩, h3⟩
end Go.Proofs.Ytjelfenkbngfiaa
