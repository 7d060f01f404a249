/-
  Package buffer, as it landed: what each of its functions comes to, over a receiver in a block of its own. Conditions: none but that the receiver is one, and its numbers are below 2^63.
-/
import Derived.Test.YtcmfnhakmjginaaWiden
import Derived.Test.YtcmfnhakmjginaaSans
import Derived.BigQuiet
namespace Go.Proofs.Ytcmfnhakmjginaa
open Go.ChangeShapes Go.WideShapes Go.ChangeAt Go.RowKit
set_option linter.unusedVariables false

/-- block p holds a receiver: it expects n, has room for r, holds h -/
structure Rcv (w : World) (p : Nat) (n r h : Int) : Prop where
  c0 : w.cell? ⟨p, 0, none⟩ = some (.int .u64 n)
  c1 : w.cell? ⟨p, 1, none⟩ = some (.int .i64 r)
  c2 : w.cell? ⟨p, 2, none⟩ = some (.int .i64 h)
  f0 : w.frozen? ⟨p, 0, none⟩ = false
  f2 : w.frozen? ⟨p, 2, none⟩ = false
  n0 : 0 ≤ n
  h0 : 0 ≤ h
  hr : h ≤ r
  r1 : 1 ≤ r
  r8 : r ≤ 8
theorem Rcv.lt {w : World} {p : Nat} {n r h : Int} (k : Rcv w p n r h) : p < w.heap.size := cell_lt k.c0
theorem Rcv.sans {F : Nat → Prop} {w w' : World} {p : Nat} {n r h : Int} (k : Rcv w p n r h) (s : Sans F w w') (hn : ¬ F p) : Rcv w' p n r h := by
  have c : ∀ i, w'.cell? ⟨p, i, none⟩ = w.cell? ⟨p, i, none⟩ := fun i => s.cell (p := ⟨p, i, none⟩) k.lt hn
  have f : ∀ i, w'.frozen? ⟨p, i, none⟩ = w.frozen? ⟨p, i, none⟩ := fun i => s.frozen (p := ⟨p, i, none⟩) k.lt hn
  exact ⟨(c _).trans k.c0, (c _).trans k.c1, (c _).trans k.c2, (f _).trans k.f0, (f _).trans k.f2, k.n0, k.h0, k.hr, k.r1, k.r8⟩
theorem Rcv.on {w w' : World} {p : Nat} {n r h : Int} (k : Rcv w p n r h) (s : Below w.heap.size w w') : Rcv w' p n r h := k.sans (F := fun _ => False) (Sans.of_below s) (fun e => e)
theorem Rcv.set0 {w : World} {p : Nat} {n r h : Int} (k : Rcv w p n r h) (v : Int) (hv : 0 ≤ v) : Rcv (w.setCell ⟨p, 0, none⟩ (.int .u64 v)) p v r h :=
  ⟨World.cell?_setCell_same _ _ _ k.c0, cell_set k.c1 (by omega), cell_set k.c2 (by omega), by rw [World.frozen?_setCell]; exact k.f0, by rw [World.frozen?_setCell]; exact k.f2, hv, k.h0, k.hr, k.r1, k.r8⟩
theorem Rcv.set2 {w : World} {p : Nat} {n r h : Int} (k : Rcv w p n r h) (v : Int) (hv : 0 ≤ v) (hr : v ≤ r) : Rcv (w.setCell ⟨p, 2, none⟩ (.int .i64 v)) p n r v :=
  ⟨cell_set k.c0 (by omega), cell_set k.c1 (by omega), World.cell?_setCell_same _ _ _ k.c2, by rw [World.frozen?_setCell]; exact k.f0, by rw [World.frozen?_setCell]; exact k.f2, k.n0, hv, hr, k.r1, k.r8⟩

set_option maxHeartbeats 400000 in
theorem new_good (n r : Int) (hs : 0 ≤ n ∧ n < 4611686018427387904) (hr : 1 ≤ r ∧ r ≤ 8) (w : World) :
    Calls Try.prog 9 #[.int .u64 n, .int .i64 r] w fun e w' => ∃ p, e = .returned (.pointer (some ⟨p, 0, none⟩)) ∧ p = w.heap.size ∧ Rcv w' p n r 0 ∧ Below w.heap.size w w' := by
  have h1 : ¬ 4611686018427387904 ≤ n := by omega
  have h2 : ¬ r < 1 := by omega
  have h3 : ¬ 8 < r := by omega
  go_enter Try.func9, Try.ntmps9
  go_wp2
  go_ret
  refine ⟨w.heap.size, rfl, rfl, ⟨by simp, by simp, by simp, by simp, by simp, by omega, by omega, by omega, by omega, by omega⟩, fresh _ _⟩
theorem new_bad (s r : Int) (hs : 0 ≤ s ∧ s ≤ 18446744073709551615) (hr : -9223372036854775808 ≤ r ∧ r ≤ 9223372036854775807) (h : 4611686018427387904 ≤ s ∨ r < 1 ∨ 8 < r) (w : World) :
    Calls Try.prog 9 #[.int .u64 s, .int .i64 r] w fun e w' => e = .returned (.pointer none) ∧ w' = w := by
  by_cases h1 : 4611686018427387904 ≤ s
  · go_enter Try.func9, Try.ntmps9
    go_wp2
    go_ret
    exact ⟨rfl, rfl⟩
  · by_cases h2 : r < 1
    · go_enter Try.func9, Try.ntmps9
      go_wp2
      go_ret
      exact ⟨rfl, rfl⟩
    · have h3 : 8 < r := by omega
      go_enter Try.func9, Try.ntmps9
      go_wp2
      go_ret
      exact ⟨rfl, rfl⟩
theorem expects_any {w : World} {p : Nat} {n r h : Int} (k : Rcv w p n r h) :
    Calls Try.prog 11 #[.pointer (some ⟨p, 0, none⟩)] w fun e w' => e = .returned (.int .u64 n) ∧ w' = w := by
  have hc0 := k.c0
  clear k
  go_enter Try.func11, Try.ntmps11
  go_wp2
  go_ret
  exact ⟨rfl, rfl⟩
theorem held_any {w : World} {p : Nat} {n r h : Int} (k : Rcv w p n r h) :
    Calls Try.prog 12 #[.pointer (some ⟨p, 0, none⟩)] w fun e w' => e = .returned (.int .i64 h) ∧ w' = w := by
  have hc := k.c2
  have hc0 := k.c0
  clear k
  go_enter Try.func12, Try.ntmps12
  go_wp2
  go_ret
  exact ⟨rfl, rfl⟩
theorem lim_eq {n r h l : Int} (h0 : 0 ≤ h) (hr : h ≤ r) (r8 : r ≤ 8) (n0 : 0 ≤ n) (hn : n ≤ 9223372036854775807) (hl : n + (r - h) = l) : IntKind.u64.wrap (n + IntKind.u64.wrap (wrap64 (r - h))) = l := by
  rw [show wrap64 (r - h) = r - h by unfold wrap64; omega]; simp only [IntKind.wrap_u64]; omega
set_option maxHeartbeats 400000 in
theorem limit_any {w : World} {p : Nat} {n r h : Int} (k : Rcv w p n r h) (hn : n ≤ 9223372036854775807) (l : Int) (hl : n + (r - h) = l) :
    Calls Try.prog 13 #[.pointer (some ⟨p, 0, none⟩)] w fun e w' => e = .returned (.int .u64 l) ∧ ∃ j, w' = w.drewN j := by
  have hc0 := k.c0
  have hc1 := k.c1
  have hc2 := k.c2
  have HR : Hid (IntKind.u64.wrap (n + IntKind.u64.wrap (wrap64 (r - h))) = l) := lim_eq k.h0 k.hr k.r8 k.n0 hn hl
  clear k hl hn
  go_enter Try.func13, Try.ntmps13
  go_wp2_with fail
  go_quiet (fail)
  go_wp2_with fail
  go_ret
  exact ⟨ret_int HR.out, nq, rfl⟩
set_option maxHeartbeats 400000 in
theorem mayCome_any {w : World} {p : Nat} {n r h : Int} (k : Rcv w p n r h) (hn : n ≤ 9223372036854775807) (x : Int) (hx : 0 ≤ x ∧ x ≤ 65535) (v : Int) (hv : widI n x = v) (b : Bool) (hb : decide (n ≤ v ∧ v < n + (r - h)) = b) :
    Calls Try.prog 19 #[.pointer (some ⟨p, 0, none⟩), .int .u16 x] w fun e w' => e = .returned (.tuple #[.int .u64 v, .bool b]) ∧ ∃ j, w' = w.drewN j := by
  have K : Hid (Rcv w p n r h) := k
  have hc0 := k.c0
  have hn0 := k.n0
  have hvr := widI_range n x
  rw [hv] at hvr
  obtain ⟨l, hl⟩ : ∃ l, n + (r - h) = l := ⟨_, rfl⟩
  rw [hl] at hb
  have HL : Hid (n + (r - h) = l) := hl
  clear k hl
  by_cases hnv : n ≤ v
  · have HB : Hid (decide (v < l) = b) := by
      rw [← hb]; exact decide_eq_decide.2 ⟨fun e => ⟨hnv, e⟩, fun e => e.2⟩
    clear hb
    go_enter Try.func19, Try.ntmps19
    go_wp2_with fail
    refine (widen_any n x (by omega) (by omega) hx.1 hx.2 _).mono ?_
    rintro e w1 ⟨rfl, rfl⟩
    rw [hv]
    go_wp2_with fail
    refine (limit_any K.out hn l HL.out).mono ?_
    rintro e w1 ⟨rfl, j, rfl⟩
    go_wp2_with fail
    go_ret2
    rw [HB.out]
    exact ⟨rfl, j, rfl⟩
  · have HB : Hid (false = b) := by
      rw [← hb]; exact (decide_eq_false (fun e => hnv e.1)).symm
    clear hb
    go_enter Try.func19, Try.ntmps19
    go_wp2_with fail
    refine (widen_any n x (by omega) (by omega) hx.1 hx.2 _).mono ?_
    rintro e w1 ⟨rfl, rfl⟩
    rw [hv]
    go_wp2_with fail
    go_ret2
    rw [← HB.out]
    exact ⟨rfl, 0, rfl⟩
set_option maxHeartbeats 400000 in
theorem come_ok {w : World} {p : Nat} {n r h : Int} (k : Rcv w p n r h) (hn : n ≤ 9223372036854775807) (x : Int) (hx : 0 ≤ x ∧ x ≤ 65535) (v : Int) (hv : widI n x = v) (hb : n ≤ v ∧ v < n + (r - h)) :
    Calls Try.prog 15 #[.pointer (some ⟨p, 0, none⟩), .int .u16 x] w fun e w' => e = .returned (.int .u16 0) ∧ Rcv w' p (v + 1) r (h + 1) ∧ Sans (· = p) w w' := by
  have K : Hid (Rcv w p n r h) := k
  have HB : Hid (n ≤ v ∧ v < n + (r - h)) := hb
  have HV : Hid (widI n x = v) := hv
  have hv0 : 0 ≤ v := by have := k.n0; omega
  have hv1 : v ≤ 9223372036854775815 := by have := k.r8; have := k.h0; omega
  have hh0 := k.h0
  have hh8 : h < 8 := by have := k.r8; omega
  clear k hb hv
  go_enter Try.func15, Try.ntmps15
  go_wp2_with fail
  refine (mayCome_any K.out hn x hx v HV.out true (decide_eq_true HB.out)).mono ?_
  rintro e w1 ⟨rfl, j, hw1⟩
  have K1 : Hid (Rcv w1 p n r h) := by rw [hw1]; exact K.out.sans (Sans.drewN (F := (· ≠ p)) _ _) (fun e => e rfl)
  have S1 : Hid (Sans (· = p) w w1) := by rw [hw1]; exact Sans.drewN _ _
  clear hw1 K
  have hc2 := K1.out.c2
  have hc0 := K1.out.c0
  have hf0 := K1.out.f0
  have hf2 := K1.out.f2
  go_wp2_with fail
  go_ret
  have K2 := (K1.out.set2 (h + 1) (by omega) (by have := HB.out; omega)).set0 (v + 1) (by omega)
  exact ⟨rfl, K2, (S1.out.then (Sans.of_set _ _ _ rfl)).then (Sans.of_set _ _ _ rfl)⟩
set_option maxHeartbeats 400000 in
theorem come_stale {w : World} {p : Nat} {n r h : Int} (k : Rcv w p n r h) (hn : n ≤ 9223372036854775807) (x : Int) (hx : 0 ≤ x ∧ x ≤ 65535) (v : Int) (hv : widI n x = v) (hb : v < n) :
    Calls Try.prog 15 #[.pointer (some ⟨p, 0, none⟩), .int .u16 x] w fun e w' => e = .returned (.int .u16 60) ∧ Rcv w' p n r h ∧ Sans (· = p) w w' := by
  have K : Hid (Rcv w p n r h) := k
  have HV : Hid (widI n x = v) := hv
  have HF : Hid (decide (n ≤ v ∧ v < n + (r - h)) = false) := decide_eq_false (fun e => by omega)
  have hn0 := k.n0
  have hvr := widI_range n x
  rw [hv] at hvr
  clear k hv
  go_enter Try.func15, Try.ntmps15
  go_wp2_with fail
  refine (mayCome_any K.out hn x hx v HV.out false HF.out).mono ?_
  rintro e w1 ⟨rfl, j, hw1⟩
  have K1 : Hid (Rcv w1 p n r h) := by rw [hw1]; exact K.out.sans (Sans.drewN (F := (· ≠ p)) _ _) (fun e => e rfl)
  have S1 : Hid (Sans (· = p) w w1) := by rw [hw1]; exact Sans.drewN _ _
  clear hw1 K
  have hc0 := K1.out.c0
  go_wp2_with fail
  go_ret
  exact ⟨rfl, K1.out, S1.out⟩
set_option maxHeartbeats 400000 in
theorem come_over {w : World} {p : Nat} {n r h : Int} (k : Rcv w p n r h) (hn : n ≤ 9223372036854775807) (x : Int) (hx : 0 ≤ x ∧ x ≤ 65535) (v : Int) (hv : widI n x = v) (hb : n + (r - h) ≤ v) :
    Calls Try.prog 15 #[.pointer (some ⟨p, 0, none⟩), .int .u16 x] w fun e w' => e = .returned (.int .u16 61) ∧ Rcv w' p n r h ∧ Sans (· = p) w w' := by
  have K : Hid (Rcv w p n r h) := k
  have HV : Hid (widI n x = v) := hv
  have HF : Hid (decide (n ≤ v ∧ v < n + (r - h)) = false) := decide_eq_false (fun e => by omega)
  have hn0 := k.n0
  have hvn : ¬ v < n := by have := k.hr; omega
  have hvr := widI_range n x
  rw [hv] at hvr
  clear k hv hb
  go_enter Try.func15, Try.ntmps15
  go_wp2_with fail
  refine (mayCome_any K.out hn x hx v HV.out false HF.out).mono ?_
  rintro e w1 ⟨rfl, j, hw1⟩
  have K1 : Hid (Rcv w1 p n r h) := by rw [hw1]; exact K.out.sans (Sans.drewN (F := (· ≠ p)) _ _) (fun e => e rfl)
  have S1 : Hid (Sans (· = p) w w1) := by rw [hw1]; exact Sans.drewN _ _
  clear hw1 K
  have hc0 := K1.out.c0
  go_wp2_with fail
  go_ret
  exact ⟨rfl, K1.out, S1.out⟩
/-- any block that comes: what it expects, and the limit, do not fall -/
theorem come_any {w : World} {p : Nat} {n r h : Int} (k : Rcv w p n r h) (hn : n ≤ 9223372036854775807) (x : Int) (hx : 0 ≤ x ∧ x ≤ 65535) :
    Calls Try.prog 15 #[.pointer (some ⟨p, 0, none⟩), .int .u16 x] w fun e w' => ∃ c n' h', e = .returned (.int .u16 c) ∧ (0 ≤ c ∧ c ≤ 61) ∧ Rcv w' p n' r h' ∧ Sans (· = p) w w' ∧ n ≤ n' ∧ n' ≤ n + 8 ∧ n + (r - h) ≤ n' + (r - h') := by
  have := k.hr; have := k.h0; have := k.r8
  by_cases h1 : widI n x < n
  · exact (come_stale k hn x hx _ rfl h1).mono fun e w' ⟨he, hk, hs⟩ => ⟨60, n, h, he, by omega, hk, hs, by omega, by omega, by omega⟩
  · by_cases h2 : widI n x < n + (r - h)
    · exact (come_ok k hn x hx _ rfl ⟨by omega, h2⟩).mono fun e w' ⟨he, hk, hs⟩ => ⟨0, _, _, he, by omega, hk, hs, by omega, by omega, by omega⟩
    · exact (come_over k hn x hx _ rfl (by omega)).mono fun e w' ⟨he, hk, hs⟩ => ⟨61, n, h, he, by omega, hk, hs, by omega, by omega, by omega⟩
theorem free_none {w : World} {p : Nat} {n r : Int} (k : Rcv w p n r 0) :
    Calls Try.prog 14 #[.pointer (some ⟨p, 0, none⟩)] w fun e w' => e = .returned (.bool false) ∧ w' = w := by
  have hc2 := k.c2
  clear k
  go_enter Try.func14, Try.ntmps14
  go_wp2_with fail
  go_ret
  exact ⟨rfl, rfl⟩
set_option maxHeartbeats 400000 in
theorem free_some {w : World} {p : Nat} {n r h : Int} (k : Rcv w p n r h) (h1 : 1 ≤ h) :
    Calls Try.prog 14 #[.pointer (some ⟨p, 0, none⟩)] w fun e w' => e = .returned (.bool true) ∧ Rcv w' p n r (h - 1) ∧ Sans (· = p) w w' := by
  have K : Hid (Rcv w p n r h) := k
  have hc2 := k.c2
  have hf2 := k.f2
  have h8 : h ≤ 8 := by have := k.r8; have := k.hr; omega
  have hz : (h == 0) = false := by simp; omega
  clear k
  go_enter Try.func14, Try.ntmps14
  go_wp2_with fail
  go_ret
  exact ⟨rfl, K.out.set2 (h - 1) (by omega) (by have := K.out.hr; omega), Sans.of_set _ _ _ rfl⟩
theorem free_any {w : World} {p : Nat} {n r h : Int} (k : Rcv w p n r h) :
    Calls Try.prog 14 #[.pointer (some ⟨p, 0, none⟩)] w fun e w' => ∃ b h', e = .returned (.bool b) ∧ Rcv w' p n r h' ∧ Sans (· = p) w w' ∧ h' ≤ h ∧ h ≤ h' + 1 := by
  by_cases h1 : 1 ≤ h
  · exact (free_some k h1).mono fun e w' ⟨he, hk, hs⟩ => ⟨true, _, he, hk, hs, by omega, by omega⟩
  · have := k.h0
    obtain rfl : h = 0 := by omega
    exact (free_none k).mono fun e w' ⟨he, hw⟩ => ⟨false, _, he, hw ▸ k, hw ▸ Sans.refl _ _, by omega, by omega⟩
set_option maxHeartbeats 400000 in
theorem hear_yes {w : World} {p : Nat} {n r h : Int} (k : Rcv w p n r h) (hn : n ≤ 9223372036854775807) (x : Int) (hx : 0 ≤ x ∧ x ≤ 65535) (v : Int) (hv : widI n x = v) (hb : n < v ∧ v ≤ n + (r - h)) :
    Calls Try.prog 16 #[.pointer (some ⟨p, 0, none⟩), .int .u16 x] w fun e w' => e = .returned (.bool true) ∧ Rcv w' p v r h ∧ Sans (· = p) w w' := by
  have K : Hid (Rcv w p n r h) := k
  have HV : Hid (widI n x = v) := hv
  have hn0 := k.n0
  have hc0 := k.c0
  obtain ⟨l, hl⟩ : ∃ l, n + (r - h) = l := ⟨_, rfl⟩
  rw [hl] at hb
  have HL : Hid (n + (r - h) = l) := hl
  have h1 : ¬ v ≤ n := by omega
  have h2 : ¬ l < v := by omega
  clear k hl hv
  go_enter Try.func16, Try.ntmps16
  go_wp2_with fail
  refine (widen_any n x (by omega) (by omega) hx.1 hx.2 _).mono ?_
  rintro e w ⟨rfl, rfl⟩
  rw [HV.out]
  go_wp2_with fail
  refine (limit_any K.out hn l HL.out).mono ?_
  rintro e w1 ⟨rfl, j, hw1⟩
  have K1 : Hid (Rcv w1 p n r h) := by rw [hw1]; exact K.out.sans (Sans.drewN (F := (· ≠ p)) _ _) (fun e => e rfl)
  have S1 : Hid (Sans (· = p) w w1) := by rw [hw1]; exact Sans.drewN _ _
  clear hw1 K hc0
  have hc0 := K1.out.c0
  have hf0 := K1.out.f0
  go_wp2_with fail
  go_ret
  exact ⟨rfl, K1.out.set0 v (by omega), S1.out.then (Sans.of_set _ _ _ rfl)⟩
set_option maxHeartbeats 400000 in
theorem hear_no {w : World} {p : Nat} {n r h : Int} (k : Rcv w p n r h) (hn : n ≤ 9223372036854775807) (x : Int) (hx : 0 ≤ x ∧ x ≤ 65535) (v : Int) (hv : widI n x = v) (hb : v ≤ n ∨ n + (r - h) < v) :
    Calls Try.prog 16 #[.pointer (some ⟨p, 0, none⟩), .int .u16 x] w fun e w' => e = .returned (.bool false) ∧ Rcv w' p n r h ∧ Sans (· = p) w w' := by
  have K : Hid (Rcv w p n r h) := k
  have HV : Hid (widI n x = v) := hv
  have hn0 := k.n0
  have hc0 := k.c0
  obtain ⟨l, hl⟩ : ∃ l, n + (r - h) = l := ⟨_, rfl⟩
  rw [hl] at hb
  have HL : Hid (n + (r - h) = l) := hl
  clear k hl hv
  by_cases h1 : v ≤ n
  · clear hb
    go_enter Try.func16, Try.ntmps16
    go_wp2_with fail
    refine (widen_any n x (by omega) (by omega) hx.1 hx.2 _).mono ?_
    rintro e w ⟨rfl, rfl⟩
    rw [HV.out]
    go_wp2_with fail
    go_ret
    exact ⟨rfl, K.out, Sans.refl _ _⟩
  · have h2 : l < v := by omega
    clear hb
    go_enter Try.func16, Try.ntmps16
    go_wp2_with fail
    refine (widen_any n x (by omega) (by omega) hx.1 hx.2 _).mono ?_
    rintro e w ⟨rfl, rfl⟩
    rw [HV.out]
    go_wp2_with fail
    refine (limit_any K.out hn l HL.out).mono ?_
    rintro e w1 ⟨rfl, j, hw1⟩
    have K1 : Hid (Rcv w1 p n r h) := by rw [hw1]; exact K.out.sans (Sans.drewN (F := (· ≠ p)) _ _) (fun e => e rfl)
    have S1 : Hid (Sans (· = p) w w1) := by rw [hw1]; exact Sans.drewN _ _
    clear hw1 K hc0
    go_wp2_with fail
    go_ret
    exact ⟨rfl, K1.out, S1.out⟩
theorem hear_any {w : World} {p : Nat} {n r h : Int} (k : Rcv w p n r h) (hn : n ≤ 9223372036854775807) (x : Int) (hx : 0 ≤ x ∧ x ≤ 65535) :
    Calls Try.prog 16 #[.pointer (some ⟨p, 0, none⟩), .int .u16 x] w fun e w' => ∃ b n', e = .returned (.bool b) ∧ Rcv w' p n' r h ∧ Sans (· = p) w w' ∧ n ≤ n' ∧ n' ≤ n + 8 := by
  have := k.hr; have := k.h0; have := k.r8
  by_cases h1 : n < widI n x ∧ widI n x ≤ n + (r - h)
  · exact (hear_yes k hn x hx _ rfl h1).mono fun e w' ⟨he, hk, hs⟩ => ⟨true, _, he, hk, hs, by omega, by omega⟩
  · exact (hear_no k hn x hx _ rfl (by omega)).mono fun e w' ⟨he, hk, hs⟩ => ⟨false, n, he, hk, hs, by omega, by omega⟩
end Go.Proofs.Ytcmfnhakmjginaa
