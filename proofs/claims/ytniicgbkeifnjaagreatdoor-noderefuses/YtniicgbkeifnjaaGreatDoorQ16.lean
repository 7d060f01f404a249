/-
  Contracts and plain facts that the walks lean on (BufferA, HostLandA). Conditions: none but those that each states.
-/
import Derived.Test.YtniicgbkeifnjaaGreatDoorQ7
namespace Go.Proofs.YtniicgbkeifnjaaGreatDoor.Bf
open Go.ChangeShapes Go.WideShapes Go.ChangeAt Go.RowKit
set_option linter.unusedVariables false
set_option maxRecDepth 100000
structure Rcv (w : World) (p : Nat) (n r h : Int) : Prop where
  c0 : w.cell? ⟨p, 0, none⟩ = some (.int .u64 n)
  c1 : w.cell? ⟨p, 1, none⟩ = some (.int .i64 r)
  c2 : w.cell? ⟨p, 2, none⟩ = some (.int .i64 h)
  f0 : w.frozen? ⟨p, 0, none⟩ = false
  f2 : w.frozen? ⟨p, 2, none⟩ = false
  n0 : 0 ≤ n
  h0 : 0 ≤ h
  hr : h ≤ r
  r1 : 1 ≤ r
  r8 : r ≤ 8
theorem Rcv.lt {w : World} {p : Nat} {n r h : Int} (k : Rcv w p n r h) : p < w.heap.size := cell_lt k.c0
theorem Rcv.sans {F : Nat → Prop} {w w' : World} {p : Nat} {n r h : Int} (k : Rcv w p n r h) (s : Sans F w w') (hn : ¬ F p) : Rcv w' p n r h := by
  have c : ∀ i, w'.cell? ⟨p, i, none⟩ = w.cell? ⟨p, i, none⟩ := fun i => s.cell (p := ⟨p, i, none⟩) k.lt hn
  have f : ∀ i, w'.frozen? ⟨p, i, none⟩ = w.frozen? ⟨p, i, none⟩ := fun i => s.frozen (p := ⟨p, i, none⟩) k.lt hn
  exact ⟨(c _).trans k.c0, (c _).trans k.c1, (c _).trans k.c2, (f _).trans k.f0, (f _).trans k.f2, k.n0, k.h0, k.hr, k.r1, k.r8⟩
theorem Rcv.set0 {w : World} {p : Nat} {n r h : Int} (k : Rcv w p n r h) (v : Int) (hv : 0 ≤ v) : Rcv (w.setCell ⟨p, 0, none⟩ (.int .u64 v)) p v r h :=
  ⟨World.cell?_setCell_same _ _ _ k.c0, cell_set k.c1 (by omega), cell_set k.c2 (by omega), by rw [World.frozen?_setCell]; exact k.f0, by rw [World.frozen?_setCell]; exact k.f2, hv, k.h0, k.hr, k.r1, k.r8⟩
theorem Rcv.set2 {w : World} {p : Nat} {n r h : Int} (k : Rcv w p n r h) (v : Int) (hv : 0 ≤ v) (hr : v ≤ r) : Rcv (w.setCell ⟨p, 2, none⟩ (.int .i64 v)) p n r v :=
  ⟨cell_set k.c0 (by omega), cell_set k.c1 (by omega), World.cell?_setCell_same _ _ _ k.c2, by rw [World.frozen?_setCell]; exact k.f0, by rw [World.frozen?_setCell]; exact k.f2, k.n0, hv, hr, k.r1, k.r8⟩
set_option maxHeartbeats 400000 in
theorem new_good (n r : Int) (hs : 0 ≤ n ∧ n < 4611686018427387904) (hr : 1 ≤ r ∧ r ≤ 8) (w : World) :
    Calls Tryz.prog 94 #[.int .u64 n, .int .i64 r] w fun e w' => ∃ p, e = .returned (.pointer (some ⟨p, 0, none⟩)) ∧ p = w.heap.size ∧ Rcv w' p n r 0 ∧ Below w.heap.size w w' := by
  have h1 : ¬ 4611686018427387904 ≤ n := by omega
  have h2 : ¬ r < 1 := by omega
  have h3 : ¬ 8 < r := by omega
  go_enter Tryz.func94, Tryz.ntmps94
  go_wp2
  go_ret
  refine ⟨w.heap.size, rfl, rfl, ⟨by simp, by simp, by simp, by simp, by simp, by omega, by omega, by omega, by omega, by omega⟩, fresh _ _⟩
theorem lim_eq {n r h l : Int} (h0 : 0 ≤ h) (hr : h ≤ r) (r8 : r ≤ 8) (n0 : 0 ≤ n) (hn : n ≤ 9223372036854775807) (hl : n + (r - h) = l) : IntKind.u64.wrap (n + IntKind.u64.wrap (wrap64 (r - h))) = l := by
  rw [show wrap64 (r - h) = r - h by unfold wrap64; omega]; simp only [IntKind.wrap_u64]; omega
set_option maxHeartbeats 400000 in
theorem limit_any {w : World} {p : Nat} {n r h : Int} (k : Rcv w p n r h) (hn : n ≤ 9223372036854775807) (l : Int) (hl : n + (r - h) = l) :
    Calls Tryz.prog 108 #[.pointer (some ⟨p, 0, none⟩)] w fun e w' => e = .returned (.int .u64 l) ∧ ∃ j, w' = w.drewN j := by
  have hc0 := k.c0
  have hc1 := k.c1
  have hc2 := k.c2
  have HR : Hid (IntKind.u64.wrap (n + IntKind.u64.wrap (wrap64 (r - h))) = l) := lim_eq k.h0 k.hr k.r8 k.n0 hn hl
  clear k hl hn
  go_enter Tryz.func108, Tryz.ntmps108
  go_wp2_with fail
  go_quiet (fail)
  go_wp2_with fail
  go_ret
  exact ⟨ret_int HR.out, nq, rfl⟩
set_option maxHeartbeats 400000 in
theorem mayCome_any {w : World} {p : Nat} {n r h : Int} (k : Rcv w p n r h) (hn : n ≤ 9223372036854775807) (x : Int) (hx : 0 ≤ x ∧ x ≤ 65535) (v : Int) (hv : widI n x = v) (b : Bool) (hb : decide (n ≤ v ∧ v < n + (r - h)) = b) :
    Calls Tryz.prog 193 #[.pointer (some ⟨p, 0, none⟩), .int .u16 x] w fun e w' => e = .returned (.tuple #[.int .u64 v, .bool b]) ∧ ∃ j, w' = w.drewN j := by
  have K : Hid (Rcv w p n r h) := k
  have hc0 := k.c0
  have hn0 := k.n0
  have hvr := widI_range n x
  rw [hv] at hvr
  obtain ⟨l, hl⟩ : ∃ l, n + (r - h) = l := ⟨_, rfl⟩
  rw [hl] at hb
  have HL : Hid (n + (r - h) = l) := hl
  clear k hl
  by_cases hnv : n ≤ v
  · have HB : Hid (decide (v < l) = b) := by
      rw [← hb]; exact decide_eq_decide.2 ⟨fun e => ⟨hnv, e⟩, fun e => e.2⟩
    clear hb
    go_enter Tryz.func193, Tryz.ntmps193
    go_wp2_with fail
    refine (widen_any n x (by omega) (by omega) hx.1 hx.2 _).mono ?_
    rintro e w1 ⟨rfl, rfl⟩
    rw [hv]
    go_wp2_with fail
    refine (limit_any K.out hn l HL.out).mono ?_
    rintro e w1 ⟨rfl, j, rfl⟩
    go_wp2_with fail
    go_ret2
    rw [HB.out]
    exact ⟨rfl, j, rfl⟩
  · have HB : Hid (false = b) := by
      rw [← hb]; exact (decide_eq_false (fun e => hnv e.1)).symm
    clear hb
    go_enter Tryz.func193, Tryz.ntmps193
    go_wp2_with fail
    refine (widen_any n x (by omega) (by omega) hx.1 hx.2 _).mono ?_
    rintro e w1 ⟨rfl, rfl⟩
    rw [hv]
    go_wp2_with fail
    go_ret2
    rw [← HB.out]
    exact ⟨rfl, 0, rfl⟩
set_option maxHeartbeats 400000 in
theorem come_ok {w : World} {p : Nat} {n r h : Int} (k : Rcv w p n r h) (hn : n ≤ 9223372036854775807) (x : Int) (hx : 0 ≤ x ∧ x ≤ 65535) (v : Int) (hv : widI n x = v) (hb : n ≤ v ∧ v < n + (r - h)) :
    Calls Tryz.prog 138 #[.pointer (some ⟨p, 0, none⟩), .int .u16 x] w fun e w' => e = .returned (.int .u16 0) ∧ Rcv w' p (v + 1) r (h + 1) ∧ Sans (· = p) w w' := by
  have K : Hid (Rcv w p n r h) := k
  have HB : Hid (n ≤ v ∧ v < n + (r - h)) := hb
  have HV : Hid (widI n x = v) := hv
  have hv0 : 0 ≤ v := by have := k.n0; omega
  have hv1 : v ≤ 9223372036854775815 := by have := k.r8; have := k.h0; omega
  have hh0 := k.h0
  have hh8 : h < 8 := by have := k.r8; omega
  clear k hb hv
  go_enter Tryz.func138, Tryz.ntmps138
  go_wp2_with fail
  refine (mayCome_any K.out hn x hx v HV.out true (decide_eq_true HB.out)).mono ?_
  rintro e w1 ⟨rfl, j, hw1⟩
  have K1 : Hid (Rcv w1 p n r h) := by rw [hw1]; exact K.out.sans (Sans.drewN (F := (· ≠ p)) _ _) (fun e => e rfl)
  have S1 : Hid (Sans (· = p) w w1) := by rw [hw1]; exact Sans.drewN _ _
  clear hw1 K
  have hc2 := K1.out.c2
  have hc0 := K1.out.c0
  have hf0 := K1.out.f0
  have hf2 := K1.out.f2
  go_wp2_with fail
  go_ret
  have K2 := (K1.out.set2 (h + 1) (by omega) (by have := HB.out; omega)).set0 (v + 1) (by omega)
  exact ⟨rfl, K2, (S1.out.then (Sans.of_set _ _ _ rfl)).then (Sans.of_set _ _ _ rfl)⟩
set_option maxHeartbeats 400000 in
theorem come_stale {w : World} {p : Nat} {n r h : Int} (k : Rcv w p n r h) (hn : n ≤ 9223372036854775807) (x : Int) (hx : 0 ≤ x ∧ x ≤ 65535) (v : Int) (hv : widI n x = v) (hb : v < n) :
    Calls Tryz.prog 138 #[.pointer (some ⟨p, 0, none⟩), .int .u16 x] w fun e w' => e = .returned (.int .u16 60) ∧ Rcv w' p n r h ∧ Sans (· = p) w w' := by
  have K : Hid (Rcv w p n r h) := k
  have HV : Hid (widI n x = v) := hv
  have HF : Hid (decide (n ≤ v ∧ v < n + (r - h)) = false) := decide_eq_false (fun e => by omega)
  have hn0 := k.n0
  have hvr := widI_range n x
  rw [hv] at hvr
  clear k hv
  go_enter Tryz.func138, Tryz.ntmps138
  go_wp2_with fail
  refine (mayCome_any K.out hn x hx v HV.out false HF.out).mono ?_
  rintro e w1 ⟨rfl, j, hw1⟩
  have K1 : Hid (Rcv w1 p n r h) := by rw [hw1]; exact K.out.sans (Sans.drewN (F := (· ≠ p)) _ _) (fun e => e rfl)
  have S1 : Hid (Sans (· = p) w w1) := by rw [hw1]; exact Sans.drewN _ _
  clear hw1 K
  have hc0 := K1.out.c0
  go_wp2_with fail
  go_ret
  exact ⟨rfl, K1.out, S1.out⟩
set_option maxHeartbeats 400000 in
theorem come_over {w : World} {p : Nat} {n r h : Int} (k : Rcv w p n r h) (hn : n ≤ 9223372036854775807) (x : Int) (hx : 0 ≤ x ∧ x ≤ 65535) (v : Int) (hv : widI n x = v) (hb : n + (r - h) ≤ v) :
    Calls Tryz.prog 138 #[.pointer (some ⟨p, 0, none⟩), .int .u16 x] w fun e w' => e = .returned (.int .u16 61) ∧ Rcv w' p n r h ∧ Sans (· = p) w w' := by
  have K : Hid (Rcv w p n r h) := k
  have HV : Hid (widI n x = v) := hv
  have HF : Hid (decide (n ≤ v ∧ v < n + (r - h)) = false) := decide_eq_false (fun e => by omega)
  have hn0 := k.n0
  have hvn : ¬ v < n := by have := k.hr; omega
  have hvr := widI_range n x
  rw [hv] at hvr
  clear k hv hb
  go_enter Tryz.func138, Tryz.ntmps138
  go_wp2_with fail
  refine (mayCome_any K.out hn x hx v HV.out false HF.out).mono ?_
  rintro e w1 ⟨rfl, j, hw1⟩
  have K1 : Hid (Rcv w1 p n r h) := by rw [hw1]; exact K.out.sans (Sans.drewN (F := (· ≠ p)) _ _) (fun e => e rfl)
  have S1 : Hid (Sans (· = p) w w1) := by rw [hw1]; exact Sans.drewN _ _
  clear hw1 K
  have hc0 := K1.out.c0
  go_wp2_with fail
  go_ret
  exact ⟨rfl, K1.out, S1.out⟩
theorem free_none {w : World} {p : Nat} {n r : Int} (k : Rcv w p n r 0) :
    Calls Tryz.prog 175 #[.pointer (some ⟨p, 0, none⟩)] w fun e w' => e = .returned (.bool false) ∧ w' = w := by
  have hc2 := k.c2
  clear k
  go_enter Tryz.func175, Tryz.ntmps175
  go_wp2_with fail
  go_ret
  exact ⟨rfl, rfl⟩
set_option maxHeartbeats 400000 in
theorem free_some {w : World} {p : Nat} {n r h : Int} (k : Rcv w p n r h) (h1 : 1 ≤ h) :
    Calls Tryz.prog 175 #[.pointer (some ⟨p, 0, none⟩)] w fun e w' => e = .returned (.bool true) ∧ Rcv w' p n r (h - 1) ∧ Sans (· = p) w w' := by
  have K : Hid (Rcv w p n r h) := k
  have hc2 := k.c2
  have hf2 := k.f2
  have h8 : h ≤ 8 := by have := k.r8; have := k.hr; omega
  have hz : (h == 0) = false := by simp; omega
  clear k
  go_enter Tryz.func175, Tryz.ntmps175
  go_wp2_with fail
  go_ret
  exact ⟨rfl, K.out.set2 (h - 1) (by omega) (by have := K.out.hr; omega), Sans.of_set _ _ _ rfl⟩
set_option maxHeartbeats 400000 in
theorem hear_yes {w : World} {p : Nat} {n r h : Int} (k : Rcv w p n r h) (hn : n ≤ 9223372036854775807) (x : Int) (hx : 0 ≤ x ∧ x ≤ 65535) (v : Int) (hv : widI n x = v) (hb : n < v ∧ v ≤ n + (r - h)) :
    Calls Tryz.prog 82 #[.pointer (some ⟨p, 0, none⟩), .int .u16 x] w fun e w' => e = .returned (.bool true) ∧ Rcv w' p v r h ∧ Sans (· = p) w w' := by
  have K : Hid (Rcv w p n r h) := k
  have HV : Hid (widI n x = v) := hv
  have hn0 := k.n0
  have hc0 := k.c0
  obtain ⟨l, hl⟩ : ∃ l, n + (r - h) = l := ⟨_, rfl⟩
  rw [hl] at hb
  have HL : Hid (n + (r - h) = l) := hl
  have h1 : ¬ v ≤ n := by omega
  have h2 : ¬ l < v := by omega
  clear k hl hv
  go_enter Tryz.func82, Tryz.ntmps82
  go_wp2_with fail
  refine (widen_any n x (by omega) (by omega) hx.1 hx.2 _).mono ?_
  rintro e w ⟨rfl, rfl⟩
  rw [HV.out]
  go_wp2_with fail
  refine (limit_any K.out hn l HL.out).mono ?_
  rintro e w1 ⟨rfl, j, hw1⟩
  have K1 : Hid (Rcv w1 p n r h) := by rw [hw1]; exact K.out.sans (Sans.drewN (F := (· ≠ p)) _ _) (fun e => e rfl)
  have S1 : Hid (Sans (· = p) w w1) := by rw [hw1]; exact Sans.drewN _ _
  clear hw1 K hc0
  have hc0 := K1.out.c0
  have hf0 := K1.out.f0
  go_wp2_with fail
  go_ret
  exact ⟨rfl, K1.out.set0 v (by omega), S1.out.then (Sans.of_set _ _ _ rfl)⟩
set_option maxHeartbeats 400000 in
theorem hear_no {w : World} {p : Nat} {n r h : Int} (k : Rcv w p n r h) (hn : n ≤ 9223372036854775807) (x : Int) (hx : 0 ≤ x ∧ x ≤ 65535) (v : Int) (hv : widI n x = v) (hb : v ≤ n ∨ n + (r - h) < v) :
    Calls Tryz.prog 82 #[.pointer (some ⟨p, 0, none⟩), .int .u16 x] w fun e w' => e = .returned (.bool false) ∧ Rcv w' p n r h ∧ Sans (· = p) w w' := by
  have K : Hid (Rcv w p n r h) := k
  have HV : Hid (widI n x = v) := hv
  have hn0 := k.n0
  have hc0 := k.c0
  obtain ⟨l, hl⟩ : ∃ l, n + (r - h) = l := ⟨_, rfl⟩
  rw [hl] at hb
  have HL : Hid (n + (r - h) = l) := hl
  clear k hl hv
  by_cases h1 : v ≤ n
  · clear hb
    go_enter Tryz.func82, Tryz.ntmps82
    go_wp2_with fail
    refine (widen_any n x (by omega) (by omega) hx.1 hx.2 _).mono ?_
    rintro e w ⟨rfl, rfl⟩
    rw [HV.out]
    go_wp2_with fail
    go_ret
    exact ⟨rfl, K.out, Sans.refl _ _⟩
  · have h2 : l < v := by omega
    clear hb
    go_enter Tryz.func82, Tryz.ntmps82
    go_wp2_with fail
    refine (widen_any n x (by omega) (by omega) hx.1 hx.2 _).mono ?_
    rintro e w ⟨rfl, rfl⟩
    rw [HV.out]
    go_wp2_with fail
    refine (limit_any K.out hn l HL.out).mono ?_
    rintro e w1 ⟨rfl, j, hw1⟩
    have K1 : Hid (Rcv w1 p n r h) := by rw [hw1]; exact K.out.sans (Sans.drewN (F := (· ≠ p)) _ _) (fun e => e rfl)
    have S1 : Hid (Sans (· = p) w w1) := by rw [hw1]; exact Sans.drewN _ _
    clear hw1 K hc0
    go_wp2_with fail
    go_ret
    exact ⟨rfl, K1.out, S1.out⟩
end Go.Proofs.YtniicgbkeifnjaaGreatDoor.Bf
namespace Go.Proofs.YtniicgbkeifnjaaGreatDoor.K
open Go.ChangeShapes Go.WideShapes Go.ChangeAt Go.RowKit
set_option linter.unusedVariables false
set_option maxRecDepth 100000
structure LIn (w : World) (F : Nat → Prop) (p n q : Nat) (L G : List Pk) (A : Nat → Option Addr) (C : Nat → Nat) (b : Option Addr) (cb : Nat) : Prop where
  foot : ∀ k, F k → k < w.heap.size
  self : F p
  c0 : w.cell? ⟨p, 0, none⟩ = some (.int .i64 n)
  c1 : w.cell? ⟨p, 1, none⟩ = some (.int .i64 q)
  cq : ∀ k : Nat, k < 3 → w.cell? ⟨p, 2 + k, none⟩ = some (.slice (A k) (Hst.lane L (k : Nat)).length (C k))
  c5 : w.cell? ⟨p, 5, none⟩ = some (.slice b G.length cb)
  fq : ∀ k : Nat, k < 3 → w.frozen? ⟨p, 2 + k, none⟩ = false
  f5 : w.frozen? ⟨p, 5, none⟩ = false
  rowq : ∀ k : Nat, k < 3 → w.ownsRow 0 25 4 (.slice (A k) (Hst.lane L (k : Nat)).length (C k)) (Hst.lane L (k : Nat)).length (kcells (Hst.lane L (k : Nat)))
  rowG : w.ownsRow 0 25 4 (.slice b G.length cb) G.length (kcells G)
  headq : ∀ k : Nat, k < 3 → ∀ ad, A k = some ad → F ad.block ∧ ad.block ≠ p
  headG : ∀ ad, b = some ad → F ad.block ∧ ad.block ≠ p
  apq : ∀ j k : Nat, j < 3 → k < 3 → j ≠ k → ∀ x y, A j = some x → A k = some y → x.block ≠ y.block
  apG : ∀ k : Nat, k < 3 → ∀ x y, A k = some x → b = some y → x.block ≠ y.block
  fit : Hst.Fits n q L
def LAt (w : World) (F : Nat → Prop) (p n q : Nat) (L G : List Pk) : Prop := ∃ A C b cb, LIn w F p n q L G A C b cb
section
variable {w w' : World} {F E : Nat → Prop} {p n q : Nat} {L G : List Pk} {A : Nat → Option Addr} {C : Nat → Nat} {b : Option Addr} {cb : Nat}
theorem LIn.sans (h : LIn w F p n q L G A C b cb) (k : Sans E w w') (hd : ∀ k, F k → ¬ E k) : LIn w' F p n q L G A C b cb := by
  have hr := h.foot p h.self
  have hn := hd p h.self
  have ec : ∀ j, w'.cell? ⟨p, j, none⟩ = w.cell? ⟨p, j, none⟩ := fun j => k.cell (p := ⟨p, j, none⟩) hr hn
  have ef : ∀ j, w'.frozen? ⟨p, j, none⟩ = w.frozen? ⟨p, j, none⟩ := fun j => k.frozen (p := ⟨p, j, none⟩) hr hn
  exact ⟨fun j hj => Nat.lt_of_lt_of_le (h.foot j hj) k.size, h.self, (ec _).trans h.c0, (ec _).trans h.c1, fun j hj => (ec _).trans (h.cq j hj), (ec _).trans h.c5, fun j hj => (ef _).trans (h.fq j hj), (ef _).trans h.f5,
    fun j hj => owns_lift (h.rowq j hj) k (fun ad e => hd _ (h.headq j hj ad e).1), owns_lift h.rowG k (fun ad e => hd _ (h.headG ad e).1), h.headq, h.headG, h.apq, h.apG, h.fit⟩
theorem LIn.below (h : LIn w F p n q L G A C b cb) (k : Below w.heap.size w w') : LIn w' F p n q L G A C b cb :=
  h.sans (E := fun _ => False) (Sans.of_below k) (fun _ _ e => e)
theorem LAt.sans (h : LAt w F p n q L G) (k : Sans E w w') (hd : ∀ k, F k → ¬ E k) : LAt w' F p n q L G := by
  obtain ⟨A, C, b, cb, h⟩ := h
  exact ⟨A, C, b, cb, h.sans k hd⟩
theorem LAt.foot (h : LAt w F p n q L G) : ∀ k, F k → k < w.heap.size := by
  obtain ⟨A, C, b, cb, h⟩ := h
  exact h.foot
theorem LAt.fit (h : LAt w F p n q L G) : Hst.Fits n q L := by
  obtain ⟨A, C, b, cb, h⟩ := h
  exact h.fit
theorem LIn.turn {w2 : World} (h : LIn w F p n q L G A C b cb) {k : Nat} (hk : k < 3) {g len' c2 : Nat} {L' : List Pk} (S1 : Sans (blk (A k)) w w2) (hown : w2.ownsRow 0 25 4 (.slice (some ⟨g, 0, none⟩) len' c2) len' (kcells (Hst.lane L' (k : Nat))))
    (hg : blk (A k) g ∨ w.heap.size ≤ g) (hlen : (Hst.lane L' (k : Nat)).length = len') (hoth : ∀ j : Nat, j ≠ k → Hst.lane L' (j : Nat) = Hst.lane L (j : Nat)) (hf : Hst.Fits n q L') :
    ∃ F', LAt (w2.setCell ⟨p, 2 + k, none⟩ (.slice (some ⟨g, 0, none⟩) len' c2)) F' p n q L' G ∧ Grows F w F' (w2.setCell ⟨p, 2 + k, none⟩ (.slice (some ⟨g, 0, none⟩) len' c2)) := by
  have hpl : p < w.heap.size := h.foot p h.self
  have hpb : ¬ blk (A k) p := fun ⟨ad, e, e2⟩ => (h.headq k hk ad e).2 e2
  have hbF : ∀ j, blk (A k) j → F j := fun j ⟨ad, e, e2⟩ => e2 ▸ (h.headq k hk ad e).1
  have hgp : g ≠ p := hg.elim (fun e e2 => hpb (e2 ▸ e)) (fun e => by omega)
  have S2 : Sans (fun j => j = p) w2 (w2.setCell ⟨p, 2 + k, none⟩ (.slice (some ⟨g, 0, none⟩) len' c2)) := Sans.of_set w2 ⟨p, 2 + k, none⟩ _ rfl
  have S12 : Sans F w (w2.setCell ⟨p, 2 + k, none⟩ (.slice (some ⟨g, 0, none⟩) len' c2)) := (S1.mono hbF).then (S2.mono (fun j e => by rw [e]; exact h.self))
  have hgl : g < w2.heap.size := (hown.lt g rfl).2
  have old : ∀ j, w2.cell? ⟨p, j, none⟩ = w.cell? ⟨p, j, none⟩ := fun j => S1.cell (p := ⟨p, j, none⟩) hpl hpb
  have oldf : ∀ j, w2.frozen? ⟨p, j, none⟩ = w.frozen? ⟨p, j, none⟩ := fun j => S1.frozen (p := ⟨p, j, none⟩) hpl hpb
  have hrow : ∀ j : Nat, j < 3 → j ≠ k → (w2.setCell ⟨p, 2 + k, none⟩ (.slice (some ⟨g, 0, none⟩) len' c2)).ownsRow 0 25 4 (.slice (A j) (Hst.lane L (j : Nat)).length (C j)) (Hst.lane L (j : Nat)).length (kcells (Hst.lane L (j : Nat))) :=
    fun j hj hne => owns_lift (owns_lift (h.rowq j hj) S1 (fun ad e ⟨ad2, e2, e3⟩ => h.apq j k hj hk hne ad ad2 e e2 e3.symm)) S2 (fun ad e => (h.headq j hj ad e).2)
  have rg : (w2.setCell ⟨p, 2 + k, none⟩ (.slice (some ⟨g, 0, none⟩) len' c2)).ownsRow 0 25 4 (.slice b G.length cb) G.length (kcells G) :=
    owns_lift (owns_lift h.rowG S1 (fun ad e ⟨ad2, e2, e3⟩ => h.apG k hk ad2 ad e2 e e3)) S2 (fun ad e => (h.headG ad e).2)
  have hal : ∀ j, j < 3 → ∀ y, A j = some y → y.block < w.heap.size := fun j hj y e => h.foot _ (h.headq j hj y e).1
  have hbl : ∀ y, b = some y → y.block < w.heap.size := fun y e => h.foot _ (h.headG y e).1
  have far : ∀ j, j < 3 → j ≠ k → ∀ y, A j = some y → y.block ≠ g := fun j hj hne y e => hg.elim (fun ⟨ad2, e2, e3⟩ e4 => h.apq j k hj hk hne y ad2 e e2 (e4.trans e3.symm)) (fun e2 => by have := hal j hj y e; omega)
  have farG : ∀ y, b = some y → g ≠ y.block := fun y e => hg.elim (fun ⟨ad2, e2, e3⟩ e4 => h.apG k hk ad2 y e2 e (e3.trans e4)) (fun e2 => by have := hbl y e; omega)
  refine ⟨fun j => F j ∨ j = g, ⟨fun j => if j = k then some ⟨g, 0, none⟩ else A j, fun j => if j = k then c2 else C j, b, cb, ⟨?_, .inl h.self, cell_set ((old 0).trans h.c0) (by omega), cell_set ((old 1).trans h.c1) (by omega), ?_, cell_set ((old 5).trans h.c5) (by omega), ?_, ?_, ?_, rg, ?_, fun ad e => ⟨.inl (h.headG ad e).1, (h.headG ad e).2⟩, ?_, ?_, hf⟩⟩, S12, ?_⟩
  · rintro j (e | e)
    · exact Nat.lt_of_lt_of_le (h.foot j e) S12.size
    · rw [e]; exact Nat.lt_of_lt_of_le hgl S2.size
  · intro j hj
    by_cases e : j = k
    · subst e
      simp only [if_true]
      rw [hlen]
      exact World.cell?_setCell_same _ _ _ ((old (2 + j)).trans (h.cq j hj))
    · simp only [if_neg e]
      rw [hoth j e]
      exact cell_set ((old (2 + j)).trans (h.cq j hj)) (by omega)
  · intro j hj
    rw [World.frozen?_setCell, oldf]
    exact h.fq j hj
  · rw [World.frozen?_setCell, oldf]
    exact h.f5
  · intro j hj
    by_cases e : j = k
    · subst e
      simp only [if_true]
      rw [hlen]
      exact owns_at hown S2 hgp
    · simp only [if_neg e]
      rw [hoth j e]
      exact hrow j hj e
  · intro j hj ad e
    by_cases ek : j = k
    · simp only [if_pos ek, Option.some.injEq] at e
      subst e
      exact ⟨.inr rfl, hgp⟩
    · simp only [if_neg ek] at e
      exact ⟨.inl (h.headq j hj ad e).1, (h.headq j hj ad e).2⟩
  · intro i j hi hj hij x y ex ey
    by_cases e1 : i = k
    · have e2 : j ≠ k := fun e2 => hij (e1.trans e2.symm)
      simp only [if_pos e1, Option.some.injEq] at ex
      simp only [if_neg e2] at ey
      subst ex
      exact (far j hj e2 y ey).symm
    · simp only [if_neg e1] at ex
      by_cases e2 : j = k
      · simp only [if_pos e2, Option.some.injEq] at ey
        subst ey
        exact far i hi e1 x ex
      · simp only [if_neg e2] at ey
        exact h.apq i j hi hj hij x y ex ey
  · intro j hj x y ex ey
    by_cases e1 : j = k
    · simp only [if_pos e1, Option.some.injEq] at ex
      subst ex
      exact farG y ey
    · simp only [if_neg e1] at ex
      exact h.apG j hj x y ex ey
  · rintro j (e | e)
    · exact .inl e
    · exact hg.elim (fun e2 => .inl (by rw [e]; exact hbF g e2)) (fun e2 => .inr (by omega))
theorem LIn.came {w2 : World} (h : LIn w F p n q L G A C b cb) {g len' c2 : Nat} {G' : List Pk} (S1 : Sans (blk b) w w2) (hown : w2.ownsRow 0 25 4 (.slice (some ⟨g, 0, none⟩) len' c2) len' (kcells G'))
    (hg : blk b g ∨ w.heap.size ≤ g) (hlen : G'.length = len') :
    ∃ F', LAt (w2.setCell ⟨p, 5, none⟩ (.slice (some ⟨g, 0, none⟩) len' c2)) F' p n q L G' ∧ Grows F w F' (w2.setCell ⟨p, 5, none⟩ (.slice (some ⟨g, 0, none⟩) len' c2)) := by
  have hpl : p < w.heap.size := h.foot p h.self
  have hpb : ¬ blk b p := fun ⟨ad, e, e2⟩ => (h.headG ad e).2 e2
  have hbF : ∀ j, blk b j → F j := fun j ⟨ad, e, e2⟩ => e2 ▸ (h.headG ad e).1
  have hgp : g ≠ p := hg.elim (fun e e2 => hpb (e2 ▸ e)) (fun e => by omega)
  have S2 : Sans (fun j => j = p) w2 (w2.setCell ⟨p, 5, none⟩ (.slice (some ⟨g, 0, none⟩) len' c2)) := Sans.of_set w2 ⟨p, 5, none⟩ _ rfl
  have S12 : Sans F w (w2.setCell ⟨p, 5, none⟩ (.slice (some ⟨g, 0, none⟩) len' c2)) := (S1.mono hbF).then (S2.mono (fun j e => by rw [e]; exact h.self))
  have hgl : g < w2.heap.size := (hown.lt g rfl).2
  have old : ∀ j, w2.cell? ⟨p, j, none⟩ = w.cell? ⟨p, j, none⟩ := fun j => S1.cell (p := ⟨p, j, none⟩) hpl hpb
  have oldf : ∀ j, w2.frozen? ⟨p, j, none⟩ = w.frozen? ⟨p, j, none⟩ := fun j => S1.frozen (p := ⟨p, j, none⟩) hpl hpb
  have hrow : ∀ j : Nat, j < 3 → (w2.setCell ⟨p, 5, none⟩ (.slice (some ⟨g, 0, none⟩) len' c2)).ownsRow 0 25 4 (.slice (A j) (Hst.lane L (j : Nat)).length (C j)) (Hst.lane L (j : Nat)).length (kcells (Hst.lane L (j : Nat))) :=
    fun j hj => owns_lift (owns_lift (h.rowq j hj) S1 (fun ad e ⟨ad2, e2, e3⟩ => h.apG j hj ad ad2 e e2 e3.symm)) S2 (fun ad e => (h.headq j hj ad e).2)
  have hal : ∀ j, j < 3 → ∀ y, A j = some y → y.block < w.heap.size := fun j hj y e => h.foot _ (h.headq j hj y e).1
  have far : ∀ j, j < 3 → ∀ y, A j = some y → y.block ≠ g := fun j hj y e => hg.elim (fun ⟨ad2, e2, e3⟩ e4 => h.apG j hj y ad2 e e2 (e4.trans e3.symm)) (fun e2 => by have := hal j hj y e; omega)
  refine ⟨fun j => F j ∨ j = g, ⟨A, C, some ⟨g, 0, none⟩, c2, ⟨?_, .inl h.self, cell_set ((old 0).trans h.c0) (by omega), cell_set ((old 1).trans h.c1) (by omega), fun j hj => cell_set ((old (2 + j)).trans (h.cq j hj)) (by omega), ?_, ?_, ?_, hrow, ?_, fun j hj ad e => ⟨.inl (h.headq j hj ad e).1, (h.headq j hj ad e).2⟩, ?_, h.apq, ?_, h.fit⟩⟩, S12, ?_⟩
  · rintro j (e | e)
    · exact Nat.lt_of_lt_of_le (h.foot j e) S12.size
    · rw [e]; exact Nat.lt_of_lt_of_le hgl S2.size
  · rw [hlen]
    exact World.cell?_setCell_same _ _ _ ((old 5).trans h.c5)
  · intro j hj
    rw [World.frozen?_setCell, oldf]
    exact h.fq j hj
  · rw [World.frozen?_setCell, oldf]
    exact h.f5
  · rw [hlen]
    exact owns_at hown S2 hgp
  · intro ad e
    cases e
    exact ⟨.inr rfl, hgp⟩
  · intro j hj x y ex ey
    cases ey
    exact far j hj x ex
  · rintro j (e | e)
    · exact .inl e
    · exact hg.elim (fun e2 => .inl (by rw [e]; exact hbF g e2)) (fun e2 => .inr (by omega))
end
theorem hhas_any {w : World} {p n : Nat} (h0 : w.cell? ⟨p, 0, none⟩ = some (.int .i64 n)) (z : Int) {c : Bool} (hc : (decide (0 ≤ z) && decide (z < n)) = c) :
    Calls Tryz.prog 44 #[.pointer (some ⟨p, 0, none⟩), .int .i64 z] w fun e w' => e = .returned (.bool c) ∧ w' = w := by
  have HC : Hid ((decide (0 ≤ z) && decide (z < n)) = c) := hc
  clear hc
  by_cases h1 : 0 ≤ z
  · by_cases h2 : z < n
    · have e : c = true := by rw [← HC.out, decide_eq_true h1, decide_eq_true h2]; rfl
      subst e
      clear HC
      go_enter Tryz.func44, Tryz.ntmps44
      go_wp2_with fail
      go_ret
      exact ⟨rfl, rfl⟩
    · have e : c = false := by rw [← HC.out, decide_eq_true h1, decide_eq_false h2]; rfl
      subst e
      clear HC
      go_enter Tryz.func44, Tryz.ntmps44
      go_wp2_with fail
      go_ret
      exact ⟨rfl, rfl⟩
  · have e : c = false := by rw [← HC.out, decide_eq_false h1]; rfl
    subst e
    clear HC
    go_enter Tryz.func44, Tryz.ntmps44
    go_wp2_with fail
    go_ret
    exact ⟨rfl, rfl⟩
set_option maxHeartbeats 1000000 in
theorem hNew_yes (n q : Nat) (h1 : 1 ≤ n ∧ n ≤ 3) (h2 : 1 ≤ q ∧ q ≤ 8) (w : World) :
    Calls Tryz.prog 38 #[.int .i64 n, .int .i64 q] w fun e w' => ∃ r F, e = .returned (.pointer (some ⟨r, 0, none⟩)) ∧ LAt w' F r n q [] [] ∧ Below w.heap.size w w' ∧ ∀ k, F k → w.heap.size ≤ k := by
  have a1 : ¬ (n : Int) < 1 := by omega
  have a2 : ¬ (3 : Int) < n := by omega
  have a3 : ¬ (q : Int) < 1 := by omega
  have a4 : ¬ (8 : Int) < q := by omega
  go_enter Tryz.func38, Tryz.ntmps38
  go_wp2_with fail
  go_ret
  have X : LAt (w.alloc (.cells #[.int .i64 n, .int .i64 q, .slice none 0 0, .slice none 0 0, .slice none 0 0, .slice none 0 0] 109)) (fun k => k = w.heap.size) w.heap.size n q [] [] := by
    refine ⟨fun _ => none, fun _ => 0, none, 0, ⟨fun k e => by rw [e]; simp, rfl, by simp, by simp, ?_, by simp, ?_, by simp, fun k hk => World.ownsRow_nil _ _ _ _, World.ownsRow_nil _ _ _ _, fun k hk ad e => (by cases e), fun ad e => (by cases e), fun j k hj hk hne x y e => (by cases e), fun k hk x y e => (by cases e), Hst.Fits.nil h1 h2⟩⟩
    · intro k hk
      match k with
      | 0 => simp [Hst.lane]
      | 1 => simp [Hst.lane]
      | 2 => simp [Hst.lane]
      | k + 3 => omega
    · intro k hk
      simp
  first | exact ⟨w.heap.size, fun k => k = w.heap.size, rfl, X, fresh _ _, fun k e => Nat.le_of_eq e.symm⟩ | exact ⟨w.heap.size, rfl, fun k => k = w.heap.size, X, fresh _ _, fun k e => Nat.le_of_eq e.symm⟩
section
variable {w : World} {F : Nat → Prop} {p n q : Nat} {L G : List Pk}
set_option maxHeartbeats 1000000 in
theorem hWaits_any (h : LAt w F p n q L G) (z : Int) {c : Nat} (hc : (Hst.lane L z).length = c) :
    Calls Tryz.prog 15 #[.pointer (some ⟨p, 0, none⟩), .int .i64 z] w fun e w' => e = .returned (.int .i64 c) ∧ w' = w := by
  obtain ⟨A, C, b, cb, h⟩ := h
  have h0 := h.c0
  by_cases hz : 0 ≤ z ∧ z < n
  · obtain ⟨k, rfl⟩ : ∃ k : Nat, z = k := ⟨z.toNat, by omega⟩
    have hk : k < 3 := by have := h.fit.n3; omega
    have cq := h.cq k hk
    rw [hc] at cq
    have hb : (decide (0 ≤ (k : Int)) && decide ((k : Int) < n)) = true := by rw [decide_eq_true hz.1, decide_eq_true hz.2]; rfl
    have HH : Hid (w.cell? ⟨p, 0, none⟩ = some (.int .i64 n)) := h0
    have hk3 : (k : Int) < 3 := by omega
    clear h hc hz h0
    go_enter Tryz.func15, Tryz.ntmps15
    go_wp2_with (go_at_call 44; refine (hhas_any HH.out k hb).mono ?_; rintro e w1 ⟨rfl, rfl⟩)
    go_ret
    exact ⟨rfl, rfl⟩
  · have hn := h.fit.out (k := z) (by omega)
    rw [hn] at hc
    subst hc
    have hb : (decide (0 ≤ z) && decide (z < n)) = false := by
      rw [Bool.and_eq_false_iff]
      by_cases e : 0 ≤ z
      · exact .inr (decide_eq_false (fun e2 => hz ⟨e, e2⟩))
      · exact .inl (decide_eq_false e)
    have HH : Hid (w.cell? ⟨p, 0, none⟩ = some (.int .i64 n)) := h0
    clear h hz h0 hn
    go_enter Tryz.func15, Tryz.ntmps15
    go_wp2_with (go_at_call 44; refine (hhas_any HH.out z hb).mono ?_; rintro e w1 ⟨rfl, rfl⟩)
    go_ret
    exact ⟨rfl, rfl⟩
end
set_option maxHeartbeats 1000000 in
set_option maxRecDepth 100000 in
theorem pclone_some {w : World} {ad : Addr} {m c : Nat} {G : List Pk} (h : w.ownsRow 0 25 4 (.slice (some ad) m c) m (kcells G)) (hm : m ≤ 100000) :
    Calls Tryz.prog 67 #[.slice (some ad) m c] w fun e w' => ∃ v, e = .returned v ∧ w'.ownsRow w.heap.size 25 4 v m (kcells G) ∧ Below w.heap.size w w' := by
  have q29 : ∀ (w : World) (a : Option Addr) (n c n' c' : Nat), (binOp .eql 65 (.slice a n c) (.slice none n' c')).run Tryz.prog w = .ok (.bool a.isNone) w := fun w a n c n' c' => Lib.run_eql_slice_nil w _ _ a n c n' c' Tryz.underlying65
  obtain ⟨i0, hi0, hz0, hz1, hz2⟩ := info_parts infoPk
  have HR : Hid (w.ownsRow 0 25 4 (.slice (some ad) m c) m (kcells G)) := h
  have HL : Hid ((kcells G).length = m * 4) := h.1
  have HO : Hid ((w.alloc (.cells #[] 25)).ownsRow w.heap.size 25 4 (.slice (some ⟨w.heap.size, 0, none⟩) 0 0) 0 []) := World.ownsRow_made (base := w.heap.size) (e := 25) (size := 4) w #[] 0 (Nat.le_refl _) (by unfold maxLen; omega) (by simp)
  have HN : Hid (∀ (j : Nat) (u : Value), (kcells G)[j]? = some u → (w.alloc (.cells #[] 25)).cell? (ad.add j) = some u) := by
    intro j u hu
    have hr := owns_below h (fresh w (.cells #[] 25))
    obtain ⟨g, rfl⟩ : ∃ g, ad = ⟨g, 0, none⟩ := by
      rcases h.2 with ⟨e, _⟩ | ⟨g, cp, cur, e, _⟩
      · cases e
      · simp only [Value.slice.injEq, Option.some.injEq] at e
        exact ⟨g, e.1⟩
    have hj : j < m * 4 := by have := (List.getElem?_eq_some_iff.1 hu).1; have := h.1; omega
    rw [Addr.add_lit]
    rw [show (0 : Nat) + j = j by omega]
    rw [hr.cellAt j hj]
    exact hu
  have HOne : Hid (∀ u ∈ kcells G, u.oneCell' = true) := by
    intro u hu
    unfold kcells at hu
    obtain ⟨y, _, hy⟩ := List.mem_flatMap.1 hu
    simp only [List.mem_cons, List.not_mem_nil, or_false] at hy
    rcases hy with rfl | rfl | rfl | rfl <;> rfl
  clear h
  go_enter Tryz.func67, Tryz.ntmps67
  go_wp2_with (at_builtin; refine wpList_append_own _ rfl (.tmp 5) (.tmp 6) 65 rfl w.heap.size 25 i0 _ 4 32 Tryz.underlying65 hi0 hz0 hz1 hz2 rfl (by decide) (.slice (some ⟨w.heap.size, 0, none⟩) 0 0) 0 [] rfl HO.out ad m c (kcells G) rfl HL.out HN.out HOne.out (by unfold maxLen; omega) (by omega) (by simp) ?_; intro v' w2 hown hg hnil)
  go_ret
  refine ⟨_, rfl, by simpa using hown, (fresh _ _).grown hg (by simp) (fun j e => ?_)⟩
  simp only [Value.ownBlock, Option.some.injEq] at e
  omega
set_option maxRecDepth 100000 in
theorem pclone_nil (w : World) (n c : Nat) :
    Calls Tryz.prog 67 #[.slice none n c] w fun e w' => e = .returned (.slice none 0 0) ∧ w' = w := by
  have q29 : ∀ (w : World) (a : Option Addr) (n c n' c' : Nat), (binOp .eql 65 (.slice a n c) (.slice none n' c')).run Tryz.prog w = .ok (.bool a.isNone) w := fun w a n c n' c' => Lib.run_eql_slice_nil w _ _ a n c n' c' Tryz.underlying65
  go_enter Tryz.func67, Tryz.ntmps67
  go_wp2_with fail
  go_ret
  exact ⟨rfl, rfl⟩
theorem pclone_any {w : World} {a : Option Addr} {c : Nat} {G : List Pk} (h : w.ownsRow 0 25 4 (.slice a G.length c) G.length (kcells G)) (hm : G.length ≤ 100000) :
    Calls Tryz.prog 67 #[.slice a G.length c] w fun e w' => ∃ v, e = .returned v ∧ PRow w' w.heap.size v G ∧ Below w.heap.size w w' := by
  cases a with
  | some ad => exact pclone_some h hm
  | none =>
    have h0 : G = [] := by
      rcases h.2 with ⟨_, e⟩ | ⟨g, cp, cur, e, _⟩
      · exact List.length_eq_zero_iff.1 e
      · cases e
    subst h0
    refine (pclone_nil w _ c).mono ?_
    rintro e w' ⟨rfl, rfl⟩
    exact ⟨_, rfl, World.ownsRow_nil _ _ _ _, Below.refl _ _⟩
set_option maxHeartbeats 1000000 in
theorem hGot_any {w : World} {F : Nat → Prop} {p n q : Nat} {L G : List Pk} (h : LAt w F p n q L G) (hG : G.length ≤ 100000) :
    Calls Tryz.prog 24 #[.pointer (some ⟨p, 0, none⟩)] w fun e w' => ∃ v, e = .returned v ∧ PRow w' w.heap.size v G ∧ Below w.heap.size w w' := by
  obtain ⟨A, C, b, cb, h⟩ := h
  have c5 := h.c5
  have HR : Hid (w.ownsRow 0 25 4 (.slice b G.length cb) G.length (kcells G)) := h.rowG
  have HG : Hid (G.length ≤ 100000) := hG
  clear h hG
  go_enter Tryz.func24, Tryz.ntmps24
  go_wp2_with (go_at_call 67; refine (pclone_any HR.out HG.out).mono ?_; rintro e w1 ⟨v, rfl, hr, hb⟩)
  go_ret
  exact ⟨_, rfl, hr, hb⟩
end Go.Proofs.YtniicgbkeifnjaaGreatDoor.K
