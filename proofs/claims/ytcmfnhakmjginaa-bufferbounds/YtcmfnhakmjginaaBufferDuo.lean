/-
  The program's receiver and the document's side by side: what the helper does of package shunterlaw06 comes to, for every call: neither what the program's one expects nor its limit falls. Conditions: none but that the numbers are of their kinds, and below 2^62.
-/
import Derived.Test.YtcmfnhakmjginaaRefBuffer
import Derived.Deep.RegionHeld3
namespace Go.Proofs.Ytcmfnhakmjginaa
open Go.ChangeShapes Go.WideShapes Go.ChangeAt Go.RowKit
set_option linter.unusedVariables false

theorem wrap16 (x : Int) : 0 ≤ IntKind.u16.wrap x ∧ IntKind.u16.wrap x ≤ 65535 := by rw [IntKind.wrap_u16]; omega
/-- neither what it expects falls, nor its limit -/
structure Up (n r h n' h' : Int) : Prop where
  n1 : n ≤ n'
  n2 : n' ≤ n + 8
  l : n + (r - h) ≤ n' + (r - h')
/-- both receivers, new since w0 -/
structure Duo (w0 w : World) (p q : Nat) (n r h : Int) : Prop where
  rcv : Rcv w p n r h
  ref : RefR w q
  pq : p ≠ q
  p0 : w0.heap.size ≤ p
  q0 : w0.heap.size ≤ q
  low : Below w0.heap.size w0 w
theorem RefR.lt {w : World} {q : Nat} (k : RefR w q) : q < w.heap.size := by obtain ⟨_, _, _, k⟩ := k; exact k.lt
theorem RefR.sans {F : Nat → Prop} {w w' : World} {q : Nat} (k : RefR w q) (s : Sans F w w') (hn : ¬ F q) : RefR w' q := by obtain ⟨_, _, _, k⟩ := k; exact ⟨_, _, _, k.sans s hn⟩
theorem Duo.on {w0 w w' : World} {p q : Nat} {n r h : Int} (d : Duo w0 w p q n r h) (s : Below w.heap.size w w') : Duo w0 w' p q n r h :=
  ⟨d.rcv.on s, d.ref.sans (F := fun _ => False) (Sans.of_below s) (fun e => e), d.pq, d.p0, d.q0, later d.low s⟩
theorem Duo.mine {w0 w w' : World} {p q : Nat} {n r h n' h' : Int} (d : Duo w0 w p q n r h) (k : Rcv w' p n' r h') (s : Sans (· = p) w w') : Duo w0 w' p q n' r h' :=
  ⟨k, d.ref.sans s (fun e => d.pq e.symm), d.pq, d.p0, d.q0, d.low.trans (s.below d.low.size (fun k e => e ▸ d.p0))⟩
theorem Duo.docs {w0 w w' : World} {p q : Nat} {n r h : Int} (d : Duo w0 w p q n r h) (k : RefR w' q) (s : Sans (· = q) w w') : Duo w0 w' p q n r h :=
  ⟨d.rcv.sans s d.pq, k, d.pq, d.p0, d.q0, d.low.trans (s.below d.low.size (fun k e => e ▸ d.q0))⟩
/-- with the call itself in a block of its own -/
structure DuoB (w0 w : World) (p q : Nat) (n r h : Int) (bx : Nat) (s : Int) : Prop where
  duo : Duo w0 w p q n r h
  c2 : w.cell? ⟨bx, 2, none⟩ = some (.int .u16 s)
  bp : bx ≠ p
  bq : bx ≠ q
theorem DuoB.on {w0 w w' : World} {p q : Nat} {n r h : Int} {bx : Nat} {s : Int} (d : DuoB w0 w p q n r h bx s) (k : Below w.heap.size w w') : DuoB w0 w' p q n r h bx s :=
  ⟨d.duo.on k, (k.cell (p := ⟨bx, 2, none⟩) (cell_lt d.c2)).trans d.c2, d.bp, d.bq⟩
theorem drew_below (w : World) : Below w.heap.size w w.drew := ⟨rfl, rfl, rfl, Nat.le_refl _, fun _ _ => rfl⟩
theorem db_come {w0 w : World} {p q : Nat} {n r h : Int} {bx : Nat} {s : Int} (d : DuoB w0 w p q n r h bx s) (hn : n ≤ 4611686018427387904) (x : Int) (hx : 0 ≤ x ∧ x ≤ 65535) :
    Calls Try.prog 15 #[.pointer (some ⟨p, 0, none⟩), .int .u16 x] w fun e w' => ∃ c n' h', e = .returned (.int .u16 c) ∧ (0 ≤ c ∧ c ≤ 61) ∧ DuoB w0 w' p q n' r h' bx s ∧ Up n r h n' h' ∧ w'.cell? ⟨bx, 2, none⟩ = some (.int .u16 s) :=
  (come_any d.duo.rcv (by omega) x hx).mono fun e w' ⟨c, n', h', he, hc, hk, hs, h1, h2, h3⟩ =>
    have e2 := (hs.cell (p := ⟨bx, 2, none⟩) (cell_lt d.c2) d.bp).trans d.c2
    ⟨c, n', h', he, hc, ⟨d.duo.mine hk hs, e2, d.bp, d.bq⟩, ⟨h1, h2, h3⟩, e2⟩
theorem db_hear {w0 w : World} {p q : Nat} {n r h : Int} {bx : Nat} {s : Int} (d : DuoB w0 w p q n r h bx s) (hn : n ≤ 4611686018427387904) (x : Int) (hx : 0 ≤ x ∧ x ≤ 65535) :
    Calls Try.prog 16 #[.pointer (some ⟨p, 0, none⟩), .int .u16 x] w fun e w' => ∃ b n', e = .returned (.bool b) ∧ DuoB w0 w' p q n' r h bx s ∧ Up n r h n' h ∧ w'.cell? ⟨bx, 2, none⟩ = some (.int .u16 s) :=
  (hear_any d.duo.rcv (by omega) x hx).mono fun e w' ⟨b, n', he, hk, hs, h1, h2⟩ =>
    have e2 := (hs.cell (p := ⟨bx, 2, none⟩) (cell_lt d.c2) d.bp).trans d.c2
    ⟨b, n', he, ⟨d.duo.mine hk hs, e2, d.bp, d.bq⟩, ⟨h1, h2, by omega⟩, e2⟩
theorem db_free {w0 w : World} {p q : Nat} {n r h : Int} {bx : Nat} {s : Int} (d : DuoB w0 w p q n r h bx s) :
    Calls Try.prog 14 #[.pointer (some ⟨p, 0, none⟩)] w fun e w' => ∃ b h', e = .returned (.bool b) ∧ DuoB w0 w' p q n r h' bx s ∧ Up n r h n h' ∧ w'.cell? ⟨bx, 2, none⟩ = some (.int .u16 s) :=
  (free_any d.duo.rcv).mono fun e w' ⟨b, h', he, hk, hs, h1, h2⟩ =>
    have e2 := (hs.cell (p := ⟨bx, 2, none⟩) (cell_lt d.c2) d.bp).trans d.c2
    ⟨b, h', he, ⟨d.duo.mine hk hs, e2, d.bp, d.bq⟩, ⟨by omega, by omega, by omega⟩, e2⟩
theorem db_rcome {w0 w : World} {p q : Nat} {n r h : Int} {bx : Nat} {s : Int} (d : DuoB w0 w p q n r h bx s) (x : Int) (hx : 0 ≤ x ∧ x ≤ 65535) :
    Calls Try.prog 21 #[.pointer (some ⟨q, 0, none⟩), .int .u16 x] w fun e w' => ∃ c, e = .returned (.int .i64 c) ∧ (0 ≤ c ∧ c ≤ 61) ∧ DuoB w0 w' p q n r h bx s ∧ w'.cell? ⟨bx, 2, none⟩ = some (.int .u16 s) :=
  (rcome_any d.duo.ref x hx).mono fun e w' ⟨c, he, hc, hk, hs⟩ =>
    have e2 := (hs.cell (p := ⟨bx, 2, none⟩) (cell_lt d.c2) d.bq).trans d.c2
    ⟨c, he, hc, ⟨d.duo.docs hk hs, e2, d.bp, d.bq⟩, e2⟩
theorem db_rhear {w0 w : World} {p q : Nat} {n r h : Int} {bx : Nat} {s : Int} (d : DuoB w0 w p q n r h bx s) (x : Int) (hx : 0 ≤ x ∧ x ≤ 65535) :
    Calls Try.prog 23 #[.pointer (some ⟨q, 0, none⟩), .int .u16 x] w fun e w' => ∃ b, e = .returned (.bool b) ∧ DuoB w0 w' p q n r h bx s ∧ w'.cell? ⟨bx, 2, none⟩ = some (.int .u16 s) :=
  (rhear_any d.duo.ref x hx).mono fun e w' ⟨⟨b, he⟩, hk, hs⟩ =>
    have e2 := (hs.cell (p := ⟨bx, 2, none⟩) (cell_lt d.c2) d.bq).trans d.c2
    ⟨b, he, ⟨d.duo.docs hk hs, e2, d.bp, d.bq⟩, e2⟩
theorem db_rfree {w0 w : World} {p q : Nat} {n r h : Int} {bx : Nat} {s : Int} (d : DuoB w0 w p q n r h bx s) :
    Calls Try.prog 22 #[.pointer (some ⟨q, 0, none⟩)] w fun e w' => ∃ b, e = .returned (.bool b) ∧ DuoB w0 w' p q n r h bx s ∧ w'.cell? ⟨bx, 2, none⟩ = some (.int .u16 s) :=
  (rfree_any d.duo.ref).mono fun e w' ⟨⟨b, he⟩, hk, hs⟩ =>
    have e2 := (hs.cell (p := ⟨bx, 2, none⟩) (cell_lt d.c2) d.bq).trans d.c2
    ⟨b, he, ⟨d.duo.docs hk hs, e2, d.bp, d.bq⟩, e2⟩
theorem Duo.box {w0 w : World} {p q : Nat} {n r h : Int} (d : Duo w0 w p q n r h) (k m s : Int) (t : Nat) :
    DuoB w0 (w.alloc (.cells #[.int .u8 k, .int .u8 m, .int .u16 s] t)) p q n r h w.heap.size s :=
  ⟨d.on (fresh _ _), by simp, by have := d.rcv.lt; omega, by have := d.ref.lt; omega⟩
set_option maxRecDepth 100000 in
set_option maxHeartbeats 4000000 in
theorem does_any {w0 w : World} {p q : Nat} {n r h : Int} (d : Duo w0 w p q n r h) (hn : n ≤ 4611686018427387904) (k m s : Int) (hk : 0 ≤ k ∧ k ≤ 255) (hm : 0 ≤ m ∧ m ≤ 255) (hs : 0 ≤ s ∧ s ≤ 65535) :
    Calls Try.prog 18 #[.pointer (some ⟨p, 0, none⟩), .pointer (some ⟨q, 0, none⟩), .agg #[.int .u8 k, .int .u8 m, .int .u16 s]] w fun e w' => ∃ n' h', EndB e ∧ Duo w0 w' p q n' r h' ∧ Up n r h n' h' := by
  obtain ⟨hk0, hk1⟩ := hk
  obtain ⟨hm0, hm1⟩ := hm
  obtain ⟨N, H, R, kr⟩ := d.ref
  have hq := d.ref.lt
  have hc := (fresh w (.cells #[.int .u8 k, .int .u8 m, .int .u16 s] 40)).cell (p := ⟨q, 0, none⟩) hq
  rw [kr.c0] at hc
  have hN0 := kr.n0
  have hN1 := kr.n1
  have D : Hid (DuoB w0 (w.alloc (.cells #[.int .u8 k, .int .u8 m, .int .u16 s] 40)) p q n r h w.heap.size s) := d.box k m s _
  clear d kr hq
  have hcases : k % 6 = 2 ∨ k % 6 = 3 ∨ k % 6 = 4 ∨ k % 6 = 5 ∨ k % 6 = 0 ∨ k % 6 = 1 := by omega
  rcases hcases with h6 | h6 | h6 | h6 | h6 | h6
  · go_enter Try.func18, Try.ntmps18
    go_wp2_with fail
    go_quiet (fail)
    go_wp2_with fail
    have D1 : Hid (DuoB w0 ((w.alloc (.cells #[.int .u8 k, .int .u8 m, .int .u16 s] 40)).drewN nq) p q n r h w.heap.size s) := D.out.on (drewN_below _ _)
    generalize hW : (w.alloc (.cells #[.int .u8 k, .int .u8 m, .int .u16 s] 40)).drewN nq = W at D1 ⊢
    generalize hB : w.heap.size = bx at D1 ⊢
    clear hW hB D hc
    have c2 := D1.out.c2
    go_region_held3 (fun w' => w'.cell? ⟨bx, 2, none⟩ = some (.int .u16 s)) (go_keep)
      (first
        | (go_at_call 15; refine (db_come HD.out hn s hs).mono ?_; rintro e y ⟨c, n', h', rfl, hc, m1, up, d1⟩; have HE : Hid (Duo w0 y p q n' r h') := m1.duo; clear m1 HD)
        | (go_at_call 15; refine (db_come (D1.out.on (drewN_below _ 1)) hn s hs).mono ?_; rintro e y ⟨c, n', h', rfl, hc, m1, up, d1⟩; have HL : Hid (DuoB w0 y p q n' r h' bx s) := m1; clear m1 D1)
        | (go_at_call 21; refine (db_rcome HL.out s hs).mono ?_; rintro e y' ⟨c', rfl, hc', m2, d2⟩; have HE : Hid (Duo w0 y' p q n' r h') := m2.duo; clear m2 HL)
        | (go_at_call 21; refine (db_rcome (D1.out.on (drewN_below _ 1)) s hs).mono ?_; rintro e y' ⟨c', rfl, hc', m2, d2⟩; have HD : Hid (DuoB w0 y' p q n r h bx s) := m2; clear m2 D1))
    all_goals
      go_wp2_with fail
      go_ret
      exact ⟨n', h', ⟨_, rfl⟩, HE.out, up⟩
  · go_enter Try.func18, Try.ntmps18
    go_wp2_with fail
    go_quiet (fail)
    go_wp2_with fail
    have D1 : Hid (DuoB w0 ((w.alloc (.cells #[.int .u8 k, .int .u8 m, .int .u16 s] 40)).drewN nq) p q n r h w.heap.size s) := D.out.on (drewN_below _ _)
    generalize hW : (w.alloc (.cells #[.int .u8 k, .int .u8 m, .int .u16 s] 40)).drewN nq = W at D1 ⊢
    generalize hB : w.heap.size = bx at D1 ⊢
    clear hW hB D hc
    have c2 := D1.out.c2
    refine (db_free D1.out).mono ?_
    rintro e y ⟨b, h', rfl, m1, up, d1⟩
    have D2 : Hid (DuoB w0 y p q n r h' bx s) := m1
    clear m1 D1
    go_wp2_with fail
    refine (db_rfree D2.out).mono ?_
    rintro e y' ⟨b', rfl, m2, d2⟩
    have D3 : Hid (DuoB w0 y' p q n r h' bx s) := m2
    clear m2 D2
    go_wp2_with fail
    go_ret
    exact ⟨n, h', ⟨_, rfl⟩, D3.out.duo, up⟩
  · go_enter Try.func18, Try.ntmps18
    go_wp2_with fail
    go_quiet (fail)
    go_wp2_with fail
    have D1 : Hid (DuoB w0 ((w.alloc (.cells #[.int .u8 k, .int .u8 m, .int .u16 s] 40)).drewN nq) p q n r h w.heap.size s) := D.out.on (drewN_below _ _)
    generalize hW : (w.alloc (.cells #[.int .u8 k, .int .u8 m, .int .u16 s] 40)).drewN nq = W at D1 ⊢
    generalize hB : w.heap.size = bx at D1 ⊢
    clear hW hB D hc
    have c2 := D1.out.c2
    refine (db_hear D1.out hn _ (by first | exact wrap16 _ | omega)).mono ?_
    rintro e y ⟨b, n', rfl, m1, up, d1⟩
    have D2 : Hid (DuoB w0 y p q n' r h bx s) := m1
    clear m1 D1
    go_wp2_with fail
    refine (db_rhear D2.out _ (by first | exact wrap16 _ | omega)).mono ?_
    rintro e y' ⟨b', rfl, m2, d2⟩
    have D3 : Hid (DuoB w0 y' p q n' r h bx s) := m2
    clear m2 D2
    go_wp2_with fail
    go_ret
    exact ⟨n', h, ⟨_, rfl⟩, D3.out.duo, up⟩
  · go_enter Try.func18, Try.ntmps18
    go_wp2_with fail
    go_quiet (fail)
    go_wp2_with fail
    have D1 : Hid (DuoB w0 ((w.alloc (.cells #[.int .u8 k, .int .u8 m, .int .u16 s] 40)).drewN nq) p q n r h w.heap.size s) := D.out.on (drewN_below _ _)
    generalize hW : (w.alloc (.cells #[.int .u8 k, .int .u8 m, .int .u16 s] 40)).drewN nq = W at D1 ⊢
    generalize hB : w.heap.size = bx at D1 ⊢
    clear hW hB D hc
    have c2 := D1.out.c2
    go_region_held3 (fun w' => w'.cell? ⟨bx, 2, none⟩ = some (.int .u16 s)) (go_keep)
      (first
        | (go_at_call 16; refine (db_hear HD.out hn s hs).mono ?_; rintro e y ⟨b, n', rfl, m1, up, d1⟩; have HE : Hid (Duo w0 y p q n' r h) := m1.duo; clear m1 HD)
        | (go_at_call 16; refine (db_hear (D1.out.on (drewN_below _ 1)) hn s hs).mono ?_; rintro e y ⟨b, n', rfl, m1, up, d1⟩; have HL : Hid (DuoB w0 y p q n' r h bx s) := m1; clear m1 D1)
        | (go_at_call 23; refine (db_rhear HL.out s hs).mono ?_; rintro e y' ⟨b', rfl, m2, d2⟩; have HE : Hid (Duo w0 y' p q n' r h) := m2.duo; clear m2 HL)
        | (go_at_call 23; refine (db_rhear (D1.out.on (drewN_below _ 1)) s hs).mono ?_; rintro e y' ⟨b', rfl, m2, d2⟩; have HD : Hid (DuoB w0 y' p q n r h bx s) := m2; clear m2 D1))
    all_goals
      go_wp2_with fail
      go_ret
      exact ⟨n', h, ⟨_, rfl⟩, HE.out, up⟩
  · go_enter Try.func18, Try.ntmps18
    go_wp2_with fail
    go_quiet (fail)
    go_wp2_with fail
    have D1 : Hid (DuoB w0 ((w.alloc (.cells #[.int .u8 k, .int .u8 m, .int .u16 s] 40)).drewN nq) p q n r h w.heap.size s) := D.out.on (drewN_below _ _)
    generalize hW : (w.alloc (.cells #[.int .u8 k, .int .u8 m, .int .u16 s] 40)).drewN nq = W at D1 ⊢
    generalize hB : w.heap.size = bx at D1 ⊢
    clear hW hB D hc
    have c2 := D1.out.c2
    refine (db_come D1.out hn _ (by first | exact wrap16 _ | omega)).mono ?_
    rintro e y ⟨c, n', h', rfl, hc', m1, up, d1⟩
    have D2 : Hid (DuoB w0 y p q n' r h' bx s) := m1
    clear m1 D1
    go_wp2_with fail
    refine (db_rcome D2.out _ (by first | exact wrap16 _ | omega)).mono ?_
    rintro e y' ⟨c', rfl, hc2, m2, d2⟩
    have D3 : Hid (DuoB w0 y' p q n' r h' bx s) := m2
    clear m2 D2
    go_wp2_with fail
    go_ret
    exact ⟨n', h', ⟨_, rfl⟩, D3.out.duo, up⟩
  · go_enter Try.func18, Try.ntmps18
    go_wp2_with fail
    go_quiet (fail)
    go_wp2_with fail
    have D1 : Hid (DuoB w0 ((w.alloc (.cells #[.int .u8 k, .int .u8 m, .int .u16 s] 40)).drewN nq) p q n r h w.heap.size s) := D.out.on (drewN_below _ _)
    generalize hW : (w.alloc (.cells #[.int .u8 k, .int .u8 m, .int .u16 s] 40)).drewN nq = W at D1 ⊢
    generalize hB : w.heap.size = bx at D1 ⊢
    clear hW hB D hc
    have c2 := D1.out.c2
    refine (db_come D1.out hn _ (by first | exact wrap16 _ | omega)).mono ?_
    rintro e y ⟨c, n', h', rfl, hc', m1, up, d1⟩
    have D2 : Hid (DuoB w0 y p q n' r h' bx s) := m1
    clear m1 D1
    go_wp2_with fail
    refine (db_rcome D2.out _ (by first | exact wrap16 _ | omega)).mono ?_
    rintro e y' ⟨c', rfl, hc2, m2, d2⟩
    have D3 : Hid (DuoB w0 y' p q n' r h' bx s) := m2
    clear m2 D2
    go_wp2_with fail
    go_ret
    exact ⟨n', h', ⟨_, rfl⟩, D3.out.duo, up⟩
end Go.Proofs.Ytcmfnhakmjginaa
