/-
  The document's own Link (package shunterref04): what Twice and Take come to. Conditions: none but that the link is one.
-/
import Derived.Test.YtjelfenkbngfiaaRefLink
namespace Go.Proofs.Ytjelfenkbngfiaa
open Go.ChangeShapes Go.WideShapes Go.ChangeAt Go.RowKit
set_option linter.unusedVariables false

theorem getD_mem_rows {rs : List RowV} {j : Nat} (h : j < rs.length) : rs.getD j zrow ∈ rs := by
  rw [List.getD_eq_getElem?_getD, List.getElem?_eq_getElem h]; exact List.getElem_mem _
/-- the head of a link that is not empty -/
theorem RefAt.some {w : World} {F : Nat → Prop} {p room : Nat} {rs : List RowV} {a : Option Addr} {cap : Nat} (h : RefAt w F p room rs a cap) (hn : 0 < rs.length) : ∃ g, a = some ⟨g, 0, none⟩ ∧ g < w.heap.size ∧ rs.length ≤ cap := by
  rcases h.own.shape with ⟨_, e, _⟩ | ⟨g, e, h1, h2⟩
  · rw [e] at hn; cases hn
  · exact ⟨g, e, h1, h2⟩
theorem OwnL.maxcap {w : World} {g cap : Nat} {rs : List RowV} (h : OwnL w (some ⟨g, 0, none⟩) cap rs) : cap ≤ 9223372036854775807 := by
  rcases h.2 with ⟨e, _⟩ | ⟨g', c, cur, e, _, _, _, h2, _⟩
  · cases e
  · have : cap = c := by simp only [Value.slice.injEq] at e; exact e.2.2
    subst this
    unfold maxLen at h2
    exact h2
set_option maxHeartbeats 400000 in
theorem refTwice_none (p room : Nat) (F : Nat → Prop) (rs : List RowV) (a : Option Addr) (cap : Nat) (z : Int) (w : World) (h : RefAt w F p room rs a cap) (hz : z < 0 ∨ (rs.length : Int) ≤ z) :
    Calls Try.prog 20 #[.pointer (some ⟨p, 0, none⟩), .int .i64 z] w fun e w' => e = .returned (.bool false) ∧ w' = w := by
  have hc0 := h.c0
  obtain ⟨n, hn⟩ : ∃ n, n = rs.length := ⟨_, rfl⟩
  rw [← hn] at hc0 hz
  have hr := h.room1
  have hnb : n ≤ 64 := by omega
  clear hn h hr
  rcases hz with hz | hz
  · go_enter Try.func20, Try.ntmps20
    go_wp2_with fail
    go_ret
    exact ⟨rfl, rfl⟩
  · have h0 : 0 ≤ z := by omega
    go_enter Try.func20, Try.ntmps20
    go_wp2_with fail
    go_ret
    exact ⟨rfl, rfl⟩
set_option maxHeartbeats 400000 in
theorem refTwice_full (p room : Nat) (F : Nat → Prop) (rs : List RowV) (a : Option Addr) (cap i : Nat) (w : World) (h : RefAt w F p room rs a cap) (hi : i < rs.length) (hf : room ≤ rs.length) :
    Calls Try.prog 20 #[.pointer (some ⟨p, 0, none⟩), .int .i64 i] w fun e w' => e = .returned (.bool false) ∧ ∃ n, w' = w.drewN n := by
  have HR : Hid (RefAt w F p room rs a cap) := h
  have hc0 := h.c0
  obtain ⟨g, rfl, _⟩ := h.some (by omega)
  have hci := h.own.at hi
  obtain ⟨r, hr⟩ : ∃ r, rs.getD i zrow = r := ⟨_, rfl⟩
  rw [hr] at hci
  obtain ⟨n, hn⟩ : ∃ n, rs.length = n := ⟨_, rfl⟩
  have HN : Hid (rs.length = n) := hn
  rw [hn] at hc0 hi hf
  have hm := h.room1
  rw [hn] at hm
  clear hn h hr
  obtain ⟨ra, rl, rc, rt⟩ := r
  simp only at hci
  have hi2 : (i : Int) < n := by omega
  go_enter Try.func20, Try.ntmps20
  go_wp2_with fail
  refine (refSend_full p room F rs _ cap ra rl rc _ HR.out (by rw [HN.out]; exact hf)).mono ?_
  rintro e w1 ⟨rfl, m, rfl⟩
  go_wp2_with fail
  go_ret
  exact ⟨rfl, m, rfl⟩
set_option maxHeartbeats 400000 in
theorem refTwice_room (p room : Nat) (F : Nat → Prop) (rs : List RowV) (a : Option Addr) (cap i : Nat) (w : World) (h : RefAt w F p room rs a cap) (hi : i < rs.length) (hf : rs.length < room) :
    Calls Try.prog 20 #[.pointer (some ⟨p, 0, none⟩), .int .i64 i] w fun e w' => ∃ F' r a' cap', e = .returned (.bool true) ∧ RefAt w' F' p room (rs ++ [r]) a' cap' ∧ r.l = (rs.getD i zrow).l ∧ r.len = (rs.getD i zrow).len ∧ Grows F w F' w' := by
  have HR : Hid (RefAt w F p room rs a cap) := h
  have hc0 := h.c0
  obtain ⟨g, rfl, _⟩ := h.some (by omega)
  have hci := h.own.at hi
  obtain ⟨hro, hrl, _⟩ := h.rows _ (getD_mem_rows hi)
  obtain ⟨r, hr⟩ : ∃ r, rs.getD i zrow = r := ⟨_, rfl⟩
  rw [hr] at hci hro hrl ⊢
  obtain ⟨n, hn⟩ : ∃ n, rs.length = n := ⟨_, rfl⟩
  have HN : Hid (rs.length = n) := hn
  rw [hn] at hc0 hi hf
  have hm := h.room1
  rw [hn] at hm
  obtain ⟨ra, rl, rc, rt⟩ := r
  have HO : Hid (RowV.ok w ⟨ra, rl, rc, rt⟩) := hro
  clear hn h hr hro
  simp only at hci hrl ⊢
  have hi2 : (i : Int) < n := by omega
  go_enter Try.func20, Try.ntmps20
  go_wp2_with fail
  refine (refSend_room p room F rs _ cap ra rl rc rt _ HR.out (by rw [HN.out]; exact hf) HO.out.1 HO.out.2 hrl).mono ?_
  rintro e w1 ⟨F', r', a', c', rfl, h1, h2, h3, h4⟩
  go_wp2_with fail
  go_ret
  exact ⟨F', r', a', c', rfl, h1, h2, h3, h4⟩
end Go.Proofs.Ytjelfenkbngfiaa
