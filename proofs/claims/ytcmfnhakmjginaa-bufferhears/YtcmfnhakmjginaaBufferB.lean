/-
  A receiver of the call's own: what each function of package buffer comes to on it, by numbers near the one that it expects; and the helper known of package shunterlaw06. Conditions: none but that the receiver is one, and its numbers are below 2^63.
-/
import Derived.Test.YtcmfnhakmjginaaBufferA
namespace Go.Proofs.Ytcmfnhakmjginaa
open Go.ChangeShapes Go.WideShapes Go.ChangeAt Go.RowKit
set_option linter.unusedVariables false

/-- the call's own receiver, new since w0: what was there then is as it was -/
def Mine (w0 w : World) (p : Nat) (n r h : Int) : Prop := Rcv w p n r h ∧ w0.heap.size ≤ p ∧ Below w0.heap.size w0 w
theorem Mine.on {w0 w w' : World} {p : Nat} {n r h : Int} (m : Mine w0 w p n r h) (k : Below w.heap.size w w') : Mine w0 w' p n r h := ⟨m.1.on k, m.2.1, later m.2.2 k⟩
theorem Mine.below {w0 w : World} {p : Nat} {n r h : Int} (m : Mine w0 w p n r h) : Below w0.heap.size w0 w := m.2.2
theorem Mine.step {w0 w w' : World} {p : Nat} {n r h n' h' : Int} (m : Mine w0 w p n r h) (k : Rcv w' p n' r h') (s : Sans (· = p) w w') : Mine w0 w' p n' r h' :=
  ⟨k, m.2.1, m.2.2.trans (s.below m.2.2.size (fun k e => e ▸ m.2.1))⟩
theorem drewN_below (w : World) (n : Nat) : Below w.heap.size w (w.drewN n) := ⟨rfl, rfl, rfl, Nat.le_refl _, fun _ _ => rfl⟩
theorem m_new (n r : Int) (hs : 0 ≤ n ∧ n < 4611686018427387904) (hr : 1 ≤ r ∧ r ≤ 8) (w0 w : World) (hb : Below w0.heap.size w0 w) :
    Calls Try.prog 9 #[.int .u64 n, .int .i64 r] w fun e w' => ∃ p, e = .returned (.pointer (some ⟨p, 0, none⟩)) ∧ Mine w0 w' p n r 0 :=
  (new_good n r hs hr w).mono fun e w' ⟨p, he, hp, hk, hB⟩ => ⟨p, he, hk, by rw [hp]; exact hb.size, later hb hB⟩
theorem m_expects {w0 w : World} {p : Nat} {n r h : Int} (m : Mine w0 w p n r h) :
    Calls Try.prog 11 #[.pointer (some ⟨p, 0, none⟩)] w fun e w' => e = .returned (.int .u64 n) ∧ w' = w := expects_any m.1
theorem m_held {w0 w : World} {p : Nat} {n r h : Int} (m : Mine w0 w p n r h) :
    Calls Try.prog 12 #[.pointer (some ⟨p, 0, none⟩)] w fun e w' => e = .returned (.int .i64 h) ∧ w' = w := held_any m.1
theorem m_limit {w0 w : World} {p : Nat} {n r h : Int} (m : Mine w0 w p n r h) (hn : n ≤ 9223372036854775807) (l : Int) (hl : n + (r - h) = l) :
    Calls Try.prog 13 #[.pointer (some ⟨p, 0, none⟩)] w fun e w' => e = .returned (.int .u64 l) ∧ Mine w0 w' p n r h :=
  (limit_any m.1 hn l hl).mono fun e w' ⟨he, j, hw⟩ => ⟨he, hw ▸ m.on (drewN_below _ _)⟩
theorem m_ok {w0 w : World} {p : Nat} {n r h : Int} (m : Mine w0 w p n r h) (hn : n ≤ 9223372036854775807) (x v : Int) (hx : x = v % 65536) (hb : n ≤ v ∧ v < n + (r - h)) :
    Calls Try.prog 15 #[.pointer (some ⟨p, 0, none⟩), .int .u16 x] w fun e w' => e = .returned (.int .u16 0) ∧ Mine w0 w' p (v + 1) r (h + 1) := by
  have := m.1.n0; have := m.1.r8; have := m.1.h0
  exact (come_ok m.1 hn x (by omega) v (widI_is (by omega) (by omega) (by omega) (by omega) (by omega)) hb).mono fun e w' ⟨he, hk, hs⟩ => ⟨he, m.step hk hs⟩
theorem m_stale {w0 w : World} {p : Nat} {n r h : Int} (m : Mine w0 w p n r h) (hn : n ≤ 9223372036854775807) (x v : Int) (hx : x = v % 65536) (h0 : 0 ≤ v) (h1 : n - 32768 ≤ v) (hb : v < n) :
    Calls Try.prog 15 #[.pointer (some ⟨p, 0, none⟩), .int .u16 x] w fun e w' => e = .returned (.int .u16 60) ∧ Mine w0 w' p n r h := by
  exact (come_stale m.1 hn x (by omega) v (widI_is h0 (by omega) (by omega) h1 (by omega)) hb).mono fun e w' ⟨he, hk, hs⟩ => ⟨he, m.step hk hs⟩
theorem m_over {w0 w : World} {p : Nat} {n r h : Int} (m : Mine w0 w p n r h) (hn : n ≤ 9223372036854775807) (x v : Int) (hx : x = v % 65536) (h1 : v < n + 32768) (hb : n + (r - h) ≤ v) :
    Calls Try.prog 15 #[.pointer (some ⟨p, 0, none⟩), .int .u16 x] w fun e w' => e = .returned (.int .u16 61) ∧ Mine w0 w' p n r h := by
  have := m.1.n0; have := m.1.hr
  exact (come_over m.1 hn x (by omega) v (widI_is (by omega) (by omega) (by omega) (by omega) h1) hb).mono fun e w' ⟨he, hk, hs⟩ => ⟨he, m.step hk hs⟩
theorem m_free_none {w0 w : World} {p : Nat} {n r : Int} (m : Mine w0 w p n r 0) :
    Calls Try.prog 14 #[.pointer (some ⟨p, 0, none⟩)] w fun e w' => e = .returned (.bool false) ∧ w' = w := free_none m.1
theorem m_free_some {w0 w : World} {p : Nat} {n r h : Int} (m : Mine w0 w p n r h) (h1 : 1 ≤ h) :
    Calls Try.prog 14 #[.pointer (some ⟨p, 0, none⟩)] w fun e w' => e = .returned (.bool true) ∧ Mine w0 w' p n r (h - 1) :=
  (free_some m.1 h1).mono fun e w' ⟨he, hk, hs⟩ => ⟨he, m.step hk hs⟩
theorem m_free_any {w0 w : World} {p : Nat} {n r h : Int} (m : Mine w0 w p n r h) :
    Calls Try.prog 14 #[.pointer (some ⟨p, 0, none⟩)] w fun e w' => ∃ b h', e = .returned (.bool b) ∧ Mine w0 w' p n r h' ∧ h' ≤ h ∧ h ≤ h' + 1 :=
  (free_any m.1).mono fun e w' ⟨b, h', he, hk, hs, h1, h2⟩ => ⟨b, h', he, m.step hk hs, h1, h2⟩
theorem m_hear_yes {w0 w : World} {p : Nat} {n r h : Int} (m : Mine w0 w p n r h) (hn : n ≤ 9223372036854775807) (x v : Int) (hx : x = v % 65536) (hb : n < v ∧ v ≤ n + (r - h)) :
    Calls Try.prog 16 #[.pointer (some ⟨p, 0, none⟩), .int .u16 x] w fun e w' => e = .returned (.bool true) ∧ Mine w0 w' p v r h := by
  have := m.1.n0; have := m.1.r8; have := m.1.h0
  exact (hear_yes m.1 hn x (by omega) v (widI_is (by omega) (by omega) (by omega) (by omega) (by omega)) hb).mono fun e w' ⟨he, hk, hs⟩ => ⟨he, m.step hk hs⟩
theorem m_hear_no {w0 w : World} {p : Nat} {n r h : Int} (m : Mine w0 w p n r h) (hn : n ≤ 9223372036854775807) (x v : Int) (hx : x = v % 65536) (h0 : 0 ≤ v) (h1 : n - 32768 ≤ v) (h2 : v < n + 32768) (hb : v ≤ n ∨ n + (r - h) < v) :
    Calls Try.prog 16 #[.pointer (some ⟨p, 0, none⟩), .int .u16 x] w fun e w' => e = .returned (.bool false) ∧ Mine w0 w' p n r h := by
  exact (hear_no m.1 hn x (by omega) v (widI_is h0 (by omega) (by omega) h1 h2) hb).mono fun e w' ⟨he, hk, hs⟩ => ⟨he, m.step hk hs⟩
theorem Octs.byte {w : World} {a : Option Addr} {len : Nat} {l : List Nat} (h : Octs w a len l) {k : Nat} (hk : k < len) : ∃ b off c, a = some ⟨b, off, none⟩ ∧ c < 256 ∧ w.cell? ⟨b, off + k, none⟩ = some (.int .u8 (c : Nat)) := by
  rcases h.2.2.2 with h0 | ⟨b, off, ha, hlt, hc⟩
  · omega
  · exact ⟨b, off, _, ha, Oct_getD h.2.2.1 k, hc k hk⟩
set_option maxRecDepth 100000 in
set_option maxHeartbeats 1000000 in
theorem known_any (w : World) : Calls Try.prog 10 #[] w fun e w' => e = .returned (.bool true) ∧ Below w.heap.size w w' := by
  go_enter Try.func10, Try.ntmps10
  go_wp2_with fail
  refine (m_new 10 2 (by omega) (by omega) w w (Below.refl _ _)).mono ?_
  rintro e w1 ⟨p, rfl, h1⟩
  have H1 : Hid (Mine w w1 p 10 2 0) := h1
  clear h1
  go_wp2_with fail
  refine (m_ok H1.out (by omega) 11 11 (by omega) (by omega)).mono ?_
  rintro e w2 ⟨rfl, h2⟩
  have H2 : Hid (Mine w w2 p 12 2 1) := h2
  clear h2 H1
  go_wp2_with fail
  refine (m_limit H2.out (by omega) 13 (by omega)).mono ?_
  rintro e w3 ⟨rfl, h3⟩
  have H3 : Hid (Mine w w3 p 12 2 1) := h3
  clear h3 H2
  go_wp2_with fail
  refine (m_stale H3.out (by omega) 10 10 (by omega) (by omega) (by omega) (by omega)).mono ?_
  rintro e w4 ⟨rfl, h4⟩
  have H4 : Hid (Mine w w4 p 12 2 1) := h4
  clear h4 H3
  go_wp2_with fail
  refine (m_over H4.out (by omega) 13 13 (by omega) (by omega) (by omega)).mono ?_
  rintro e w5 ⟨rfl, h5⟩
  have H5 : Hid (Mine w w5 p 12 2 1) := h5
  clear h5 H4
  go_wp2_with fail
  refine (m_hear_yes H5.out (by omega) 13 13 (by omega) (by omega)).mono ?_
  rintro e w6 ⟨rfl, h6⟩
  have H6 : Hid (Mine w w6 p 13 2 1) := h6
  clear h6 H5
  go_wp2_with fail
  refine (m_expects H6.out).mono ?_
  rintro e w6 ⟨rfl, rfl⟩
  go_wp2_with fail
  refine (m_limit H6.out (by omega) 14 (by omega)).mono ?_
  rintro e w7 ⟨rfl, h7⟩
  have H7 : Hid (Mine w w7 p 13 2 1) := h7
  clear h7 H6
  go_wp2_with fail
  refine (m_held H7.out).mono ?_
  rintro e w7 ⟨rfl, rfl⟩
  go_wp2_with fail
  refine (new_bad 0 9 (by omega) (by omega) (by omega) _).mono ?_
  rintro e w8 ⟨rfl, rfl⟩
  go_wp2_with fail
  go_ret
  exact ⟨rfl, H7.out.below⟩
end Go.Proofs.Ytcmfnhakmjginaa
