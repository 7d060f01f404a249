/-
  Package rings, as it landed: Push, Head, Pop, Len, over rings whose memory is their own. Conditions: none but that the rings are such.
-/
import Derived.Test.YtpbeldcaiceakaaRingF
namespace Go.Proofs.Ytpbeldcaiceakaa
open Go.ChangeShapes Go.WideShapes Go.ChangeAt Go.RowKit
set_option linter.unusedVariables false

section
variable {w : World} {F : Nat → Prop} {p P L n t c : Nat} {Qs : Pl → List Pk}
set_option maxHeartbeats 1000000 in
theorem len_any (h : RAt w F p P L n t c Qs) (i o l : Int) (hq : Wf (i, o, l)) (m : Nat) (hm : (Qs (i, o, l)).length = m) :
    Calls Try.prog 11 #[.pointer (some ⟨p, 0, none⟩), .int .i64 i, .int .i64 o, .int .i64 l] w fun e w' => e = .returned (.int .i64 m) ∧ w' = w := by
  obtain ⟨G, pp, mb, S, E, V, sl, h, _⟩ := h
  have hc4 := h.c4
  obtain ⟨a, cap, hV⟩ : ∃ a cap, V (i, o, l) = .slice a m cap := by
    have hl := (h.held (i, o, l)).1
    rcases h.row (i, o, l) with ⟨e, e2⟩ | ⟨g, off, cap, e, _⟩
    · rw [e2] at hl
      exact ⟨none, 0, by rw [e, ← hm, ← hl]; rfl⟩
    · exact ⟨_, cap, by rw [e, hl, hm]⟩
  have hl : (Instr.lookup 52 (.map (some mb)) (.agg #[.int .i64 i, .int .i64 o, .int .i64 l]) false).run Try.prog w = .ok (.slice a m cap) w := by
    have := h.map.look hq
    rw [hV] at this
    exact this
  clear h hm hV
  go_enter Try.func11, Try.ntmps11
  go_wp2_with fail
  go_ret
  exact ⟨rfl, rfl⟩
/-- a queue's first one, and whether there is one -/
def hd (l : List Pk) : Pk := l.headD zpk
set_option maxHeartbeats 1000000 in
set_option maxRecDepth 100000 in
theorem head_any (h : RAt w F p P L n t c Qs) (i o l : Int) (hq : Wf (i, o, l)) (x : Pk) (b : Bool) (hx : hd (Qs (i, o, l)) = x) (hb : (!(Qs (i, o, l)).isEmpty) = b) :
    Calls Try.prog 10 #[.pointer (some ⟨p, 0, none⟩), .int .i64 i, .int .i64 o, .int .i64 l] w fun e w' => e = .returned (.tuple #[.agg #[.int .i64 x.s, .int .i64 x.d, .int .i64 x.l, .int .u32 x.b], .bool b]) ∧ Below w.heap.size w w' := by
  obtain ⟨G, pp, mb, S, E, V, sl, h, _⟩ := h
  have HH : Hid (∀ u : World, Below w.heap.size w u → Calls Try.prog 22 #[.pointer (some ⟨p, 3, none⟩), .agg #[.int .i64 i, .int .i64 o, .int .i64 l]] u fun e w' => e = .returned (.tuple #[.agg #[.int .i64 x.s, .int .i64 x.d, .int .i64 x.l, .int .u32 x.b], .bool b]) ∧ Below u.heap.size u w') := by
    intro u bel
    cases hc : Qs (i, o, l) with
    | nil =>
      rw [hc] at hx hb
      subst hx hb
      exact shead_no (h.below bel) i o l hq hc
    | cons y r =>
      rw [hc] at hx hb
      subst hx hb
      exact shead_yes (h.below bel) i o l hq y r hc
  clear h hx hb
  go_enter Try.func10, Try.ntmps10
  go_wp2_with fail
  refine (HH.out _ (fresh w _)).mono ?_
  rintro e u ⟨rfl, hbel⟩
  obtain ⟨⟨v0, r0⟩, ⟨v1, r1⟩, ⟨v2, r2⟩, ⟨v3, r3⟩, f0, f1, f2, f3⟩ := (Four.new w (.int .i64 0) (.int .i64 0) (.int .i64 0) (.int .u32 0) 27).below hbel
  have HU : Hid (Below w.heap.size w u) := later (fresh _ _) hbel
  clear hbel
  go_wp2_with fail
  exact bodyPost_ret (v := .tuple #[.agg #[.int .i64 x.s, .int .i64 x.d, .int .i64 x.l, .int .u32 x.b], .bool b]) (by simp [results, Try.results10, go_sem, r0, r1, r2, r3]) rfl ⟨rfl, lay4_below (x := x) (o := 0) HU.out (Nat.le_refl _)⟩
end
end Go.Proofs.Ytpbeldcaiceakaa
