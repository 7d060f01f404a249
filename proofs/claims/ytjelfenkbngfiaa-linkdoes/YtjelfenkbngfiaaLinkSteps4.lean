/-
  As LinkSteps: the call's cells, and what all rows of both links come to. Conditions: that package link comes to its contracts (LinkSpec).
-/
import Derived.Test.YtjelfenkbngfiaaLinkSteps3
import Derived.Deep.RegionHeld3
namespace Go.Proofs.Ytjelfenkbngfiaa
open Go.ChangeShapes Go.WideShapes Go.ChangeAt Go.RowKit
set_option linter.unusedVariables false
variable {L : World → (Nat → Prop) → Nat → Nat → List (List Nat) → Prop}

theorem St.cells {w0 w : World} {p q room : Nat} {ts1 ts2 : List (List Nat)} {bx : Nat} {v : OpV} (h : St L w0 w p q room ts1 ts2 bx v) :
    w.cell? ⟨bx, 0, none⟩ = some (.int .u8 v.k) ∧ w.cell? ⟨bx, 1, none⟩ = some (.slice v.a v.len v.cap) ∧ w.cell? ⟨bx, 2, none⟩ = some (.int .i64 v.i) ∧ w.cell? ⟨bx, 3, none⟩ = some (.int .i64 v.t) ∧ w.cell? ⟨bx, 4, none⟩ = some (.int .u8 v.x) := by
  obtain ⟨F, G, rs, a, cap, h, ht, hF, hG, ⟨h1, h2, h3, h4, h5, _⟩, hv⟩ := h
  exact ⟨h1, h2, h3, h4, h5⟩
theorem St.drew (S : LinkSpec L) {w0 w : World} {p q room : Nat} {ts1 ts2 : List (List Nat)} {bx : Nat} {v : OpV} (h : St L w0 w p q room ts1 ts2 bx v) (n : Nat) : St L w0 (w.drewN n) p q room ts1 ts2 bx v := h.later S (drewN_below w n)
/-- all rows told, and the document's rows beside them -/
theorem both_all (S : LinkSpec L) {w0 w : World} {F G : Nat → Prop} {p q room : Nat} {ts : List (List Nat)} {rs : List RowV} {a : Option Addr} {cap : Nat} (n : Nat) (hn : rs.length = n) (ht : texts rs = ts) (h : Pair L w0 w F G p q room ts rs a cap) :
    Calls Try.prog 13 #[.pointer (some ⟨p, 0, none⟩)] w fun e w' => ∃ a1 c1 ss, e = .returned (.slice a1 n c1) ∧ Lines w' a1 n ss ∧ Lines w' a n rs ∧ texts ss = texts rs ∧ Two L w0 w' p q room ∧ w'.cell? ⟨q, 0, none⟩ = some (.slice a n cap) := by
  have hle := texts_length ht
  refine (all_is S h.link n (by omega)).mono ?_
  rintro e w' ⟨a1, c1, ss, rfl, hT, hx, hc, hc2, hL, hB⟩
  have h' := h.later S hB
  have hl := h'.doc.lines
  have hc0 := h'.doc.c0
  rw [hn] at hl hc0
  exact ⟨a1, c1, ss, rfl, hT.lines, hl, by rw [hx, ht], ⟨ts, F, G, rs, a, cap, h', ht⟩, hc0⟩
theorem Two.later (S : LinkSpec L) {w0 w w' : World} {p q room : Nat} (h : Two L w0 w p q room) (k : Below w.heap.size w w') : Two L w0 w' p q room := by
  obtain ⟨ts, F, G, rs, a, cap, h, ht⟩ := h
  exact ⟨ts, F, G, rs, a, cap, h.later S k, ht⟩
theorem same_yes (a1 a2 : Option Addr) (n c1 c2 : Nat) (rs ss : List RowV) (w : World) (h1 : Lines w a1 n rs) (h2 : Lines w a2 n ss) (ht : texts rs = texts ss) :
    Calls Try.prog 23 #[.slice a1 n c1, .slice a2 n c2] w fun e w' => e = .returned (.bool true) ∧ ∃ m, w' = w.drewN m := by
  refine (same_any a1 a2 n c1 n c2 rs ss w h1 h2).mono ?_
  rintro e w' ⟨rfl, m, rfl⟩
  rw [decide_eq_true ht]
  exact ⟨rfl, m, rfl⟩
/-- each call with its parts written out; the other link's rows are whatever they are -/
theorem on_send_link (S : LinkSpec L) {w0 w : World} {p q room : Nat} {ts ts2 : List (List Nat)} {bx : Nat} (vk : Nat) (va : Option Addr) (vl vc : Nat) (vt : List Nat) (vi vat : Int) (vx : Nat) (c : Bool) (hc : decide (ts.length < room) = c) (hl : vl ≤ 1000000) (h : St L w0 w p q room ts ts2 bx ⟨vk, va, vl, vc, vt, vi, vat, vx⟩) :
    Calls Try.prog 14 #[.pointer (some ⟨p, 0, none⟩), .slice va vl vc] w fun e w' => e = .returned (.bool c) ∧ St L w0 w' p q room (sendT room vt ts) ts2 bx ⟨vk, va, vl, vc, vt, vi, vat, vx⟩ ∧ w'.cell? ⟨bx, 1, none⟩ = some (.slice va vl vc) := by
  refine (st_send_link S h hl).mono ?_
  rintro e w' ⟨rfl, h'⟩
  exact ⟨by rw [hc], h', h'.cells.2.1⟩
theorem on_send_doc (S : LinkSpec L) {w0 w : World} {p q room : Nat} {ts ts1 : List (List Nat)} {bx : Nat} (vk : Nat) (va : Option Addr) (vl vc : Nat) (vt : List Nat) (vi vat : Int) (vx : Nat) (c : Bool) (hc : decide (ts.length < room) = c) (hl : vl ≤ 1000000) (h : St L w0 w p q room ts1 ts bx ⟨vk, va, vl, vc, vt, vi, vat, vx⟩) :
    Calls Try.prog 22 #[.pointer (some ⟨q, 0, none⟩), .slice va vl vc] w fun e w' => e = .returned (.bool c) ∧ St L w0 w' p q room ts1 (sendT room vt ts) bx ⟨vk, va, vl, vc, vt, vi, vat, vx⟩ ∧ w'.cell? ⟨bx, 1, none⟩ = some (.slice va vl vc) := by
  refine (st_send_doc S h hl).mono ?_
  rintro e w' ⟨rfl, h'⟩
  exact ⟨by rw [hc], h', h'.cells.2.1⟩
theorem on_twice_link (S : LinkSpec L) {w0 w : World} {p q room : Nat} {ts ts2 : List (List Nat)} {bx : Nat} (vk : Nat) (va : Option Addr) (vl vc : Nat) (vt : List Nat) (vi vat : Int) (vx : Nat) (c : Bool) (hc : decide (0 ≤ vi ∧ vi < ts.length ∧ ts.length < room) = c) (h : St L w0 w p q room ts ts2 bx ⟨vk, va, vl, vc, vt, vi, vat, vx⟩) :
    Calls Try.prog 16 #[.pointer (some ⟨p, 0, none⟩), .int .i64 vi] w fun e w' => e = .returned (.bool c) ∧ St L w0 w' p q room (twiceT room vi ts) ts2 bx ⟨vk, va, vl, vc, vt, vi, vat, vx⟩ ∧ w'.cell? ⟨bx, 2, none⟩ = some (.int .i64 vi) := by
  refine (st_twice_link S h).mono ?_
  rintro e w' ⟨rfl, h'⟩
  exact ⟨by rw [hc], h', h'.cells.2.2.1⟩
theorem on_twice_doc (S : LinkSpec L) {w0 w : World} {p q room : Nat} {ts ts1 : List (List Nat)} {bx : Nat} (vk : Nat) (va : Option Addr) (vl vc : Nat) (vt : List Nat) (vi vat : Int) (vx : Nat) (c : Bool) (hc : decide (0 ≤ vi ∧ vi < ts.length ∧ ts.length < room) = c) (h : St L w0 w p q room ts1 ts bx ⟨vk, va, vl, vc, vt, vi, vat, vx⟩) :
    Calls Try.prog 20 #[.pointer (some ⟨q, 0, none⟩), .int .i64 vi] w fun e w' => e = .returned (.bool c) ∧ St L w0 w' p q room ts1 (twiceT room vi ts) bx ⟨vk, va, vl, vc, vt, vi, vat, vx⟩ ∧ w'.cell? ⟨bx, 2, none⟩ = some (.int .i64 vi) := by
  refine (st_twice_doc S h).mono ?_
  rintro e w' ⟨rfl, h'⟩
  exact ⟨by rw [hc], h', h'.cells.2.2.1⟩
theorem on_bend_link (S : LinkSpec L) {w0 w : World} {p q room : Nat} {ts ts2 : List (List Nat)} {bx : Nat} (vk : Nat) (va : Option Addr) (vl vc : Nat) (vt : List Nat) (vi vat : Int) (vx : Nat) (c : Bool) (hc : decide (canBend ⟨vk, va, vl, vc, vt, vi, vat, vx⟩ ts) = c) (h : St L w0 w p q room ts ts2 bx ⟨vk, va, vl, vc, vt, vi, vat, vx⟩) :
    Calls Try.prog 17 #[.pointer (some ⟨p, 0, none⟩), .int .i64 vi, .int .i64 vat, .int .u8 vx] w fun e w' => e = .returned (.bool c) ∧ St L w0 w' p q room (bendT ⟨vk, va, vl, vc, vt, vi, vat, vx⟩ ts) ts2 bx ⟨vk, va, vl, vc, vt, vi, vat, vx⟩ ∧ w'.cell? ⟨bx, 2, none⟩ = some (.int .i64 vi) ∧ w'.cell? ⟨bx, 3, none⟩ = some (.int .i64 vat) ∧ w'.cell? ⟨bx, 4, none⟩ = some (.int .u8 vx) := by
  refine (st_bend_link S h).mono ?_
  rintro e w' ⟨rfl, h'⟩
  exact ⟨by rw [hc], h', h'.cells.2.2⟩
theorem on_bend_doc (S : LinkSpec L) {w0 w : World} {p q room : Nat} {ts ts1 : List (List Nat)} {bx : Nat} (vk : Nat) (va : Option Addr) (vl vc : Nat) (vt : List Nat) (vi vat : Int) (vx : Nat) (c : Bool) (hc : decide (canBend ⟨vk, va, vl, vc, vt, vi, vat, vx⟩ ts) = c) (h : St L w0 w p q room ts1 ts bx ⟨vk, va, vl, vc, vt, vi, vat, vx⟩) :
    Calls Try.prog 21 #[.pointer (some ⟨q, 0, none⟩), .int .i64 vi, .int .i64 vat, .int .u8 vx] w fun e w' => e = .returned (.bool c) ∧ St L w0 w' p q room ts1 (bendT ⟨vk, va, vl, vc, vt, vi, vat, vx⟩ ts) bx ⟨vk, va, vl, vc, vt, vi, vat, vx⟩ ∧ w'.cell? ⟨bx, 2, none⟩ = some (.int .i64 vi) ∧ w'.cell? ⟨bx, 3, none⟩ = some (.int .i64 vat) ∧ w'.cell? ⟨bx, 4, none⟩ = some (.int .u8 vx) := by
  refine (st_bend_doc S h).mono ?_
  rintro e w' ⟨rfl, h'⟩
  exact ⟨by rw [hc], h', h'.cells.2.2⟩
theorem Taken.cell {w0 w : World} {p q room : Nat} {ts1 ts2 : List (List Nat)} {bx : Nat} {v : OpV} {ra : Option Addr} {n : Nat} {l : List Nat} (h : Taken L w0 w p q room ts1 ts2 bx v ra n l) : w.cell? ⟨bx, 2, none⟩ = some (.int .i64 v.i) := by
  obtain ⟨F, G, rs, a, cap, h, ht, hF, hG, ⟨h1, h2, h3, h4, h5, _⟩, hv, _⟩ := h
  exact h3
theorem on_take_link (S : LinkSpec L) {w0 w : World} {p q room : Nat} {ts ts2 : List (List Nat)} {bx : Nat} (vk : Nat) (va : Option Addr) (vl vc : Nat) (vt : List Nat) (vi vat : Int) (vx : Nat) (c : Bool) (hc : decide (canTake vi ts) = c) (h : St L w0 w p q room ts ts2 bx ⟨vk, va, vl, vc, vt, vi, vat, vx⟩) :
    Calls Try.prog 15 #[.pointer (some ⟨p, 0, none⟩), .int .i64 vi] w fun e w' => ∃ ra n c1, e = .returned (.tuple #[.slice ra n c1, .bool c]) ∧ Taken L w0 w' p q room (takeT vi ts) ts2 bx ⟨vk, va, vl, vc, vt, vi, vat, vx⟩ ra n (tookT vi ts) ∧ w'.cell? ⟨bx, 2, none⟩ = some (.int .i64 vi) := by
  refine (st_take_link S h).mono ?_
  rintro e w' ⟨ra, n, c1, rfl, h'⟩
  exact ⟨ra, n, c1, by rw [← hc], h', h'.cell⟩
theorem on_take_doc (S : LinkSpec L) {w0 w : World} {p q room : Nat} {ts ts1 : List (List Nat)} {bx : Nat} {ra : Option Addr} {n : Nat} {l : List Nat} (vk : Nat) (va : Option Addr) (vl vc : Nat) (vt : List Nat) (vi vat : Int) (vx : Nat) (c : Bool) (hc : decide (canTake vi ts) = c) (h : Taken L w0 w p q room ts1 ts bx ⟨vk, va, vl, vc, vt, vi, vat, vx⟩ ra n l) :
    Calls Try.prog 19 #[.pointer (some ⟨q, 0, none⟩), .int .i64 vi] w fun e w' => ∃ rb m c2, e = .returned (.tuple #[.slice rb m c2, .bool c]) ∧ St L w0 w' p q room ts1 (takeT vi ts) bx ⟨vk, va, vl, vc, vt, vi, vat, vx⟩ ∧ Octs w' ra n l ∧ Octs w' rb m (tookT vi ts) := by
  refine (st_take_doc S h).mono ?_
  rintro e w' ⟨rb, m, c2, rfl, h', o1, o2⟩
  exact ⟨rb, m, c2, by rw [← hc], h', o1, o2⟩
end Go.Proofs.Ytjelfenkbngfiaa
