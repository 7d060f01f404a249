/-
  The document's own receiver (package shunterref06): its calls come to an end and write their own block alone, whatever its numbers. Conditions: none but that the numbers are of their kinds.
-/
import Derived.Test.YtcmfnhakmjginaaBufferB
namespace Go.Proofs.Ytcmfnhakmjginaa
open Go.ChangeShapes Go.WideShapes Go.ChangeAt Go.RowKit
set_option linter.unusedVariables false

/-- block q holds a receiver of the document's, of whatever numbers -/
structure RefV (w : World) (q : Nat) (n h r : Int) : Prop where
  c0 : w.cell? ⟨q, 0, none⟩ = some (.int .u64 n)
  c1 : w.cell? ⟨q, 1, none⟩ = some (.int .i64 h)
  c2 : w.cell? ⟨q, 2, none⟩ = some (.int .i64 r)
  f0 : w.frozen? ⟨q, 0, none⟩ = false
  f1 : w.frozen? ⟨q, 1, none⟩ = false
  n0 : 0 ≤ n
  n1 : n ≤ 18446744073709551615
def RefR (w : World) (q : Nat) : Prop := ∃ n h r, RefV w q n h r
theorem RefV.lt {w : World} {q : Nat} {n h r : Int} (k : RefV w q n h r) : q < w.heap.size := cell_lt k.c0
theorem RefV.sans {F : Nat → Prop} {w w' : World} {q : Nat} {n h r : Int} (k : RefV w q n h r) (s : Sans F w w') (hn : ¬ F q) : RefV w' q n h r := by
  have c : ∀ i, w'.cell? ⟨q, i, none⟩ = w.cell? ⟨q, i, none⟩ := fun i => s.cell (p := ⟨q, i, none⟩) k.lt hn
  have f : ∀ i, w'.frozen? ⟨q, i, none⟩ = w.frozen? ⟨q, i, none⟩ := fun i => s.frozen (p := ⟨q, i, none⟩) k.lt hn
  exact ⟨(c _).trans k.c0, (c _).trans k.c1, (c _).trans k.c2, (f _).trans k.f0, (f _).trans k.f1, k.n0, k.n1⟩
theorem RefV.on {w w' : World} {q : Nat} {n h r : Int} (k : RefV w q n h r) (s : Below w.heap.size w w') : RefV w' q n h r := k.sans (F := fun _ => False) (Sans.of_below s) (fun e => e)
theorem RefV.set0 {w : World} {q : Nat} {n h r : Int} (k : RefV w q n h r) (v : Int) (h0 : 0 ≤ v) (h1 : v ≤ 18446744073709551615) : RefV (w.setCell ⟨q, 0, none⟩ (.int .u64 v)) q v h r :=
  ⟨World.cell?_setCell_same _ _ _ k.c0, cell_set k.c1 (by omega), cell_set k.c2 (by omega), by rw [World.frozen?_setCell]; exact k.f0, by rw [World.frozen?_setCell]; exact k.f1, h0, h1⟩
theorem RefV.set1 {w : World} {q : Nat} {n h r : Int} (k : RefV w q n h r) (v : Int) : RefV (w.setCell ⟨q, 1, none⟩ (.int .i64 v)) q n v r :=
  ⟨cell_set k.c0 (by omega), World.cell?_setCell_same _ _ _ k.c1, cell_set k.c2 (by omega), by rw [World.frozen?_setCell]; exact k.f0, by rw [World.frozen?_setCell]; exact k.f1, k.n0, k.n1⟩
theorem rwid_eq (a b : Int) (b0 : 0 ≤ b) (b1 : b ≤ 65535) : (IntKind.u64.wrap
              (IntKind.u64.wrap (a - 32768) +
                (IntKind.u64.wrap (b + 65536 - (IntKind.u64.wrap (a - 32768)).tmod 65536)).tmod 65536)) = widI a b := by
  simp only [IntKind.wrap_u64, widI]
  rw [Int.tmod_eq_emod_of_nonneg (by omega), Int.tmod_eq_emod_of_nonneg (by omega)]
  omega
/-- it returns a bool -/
def EndB (e : Ending) : Prop := ∃ b, e = .returned (.bool b)
set_option maxHeartbeats 400000 in
theorem rwiden_any (a b : Int) (a0 : 0 ≤ a) (a1 : a ≤ 18446744073709551615) (b0 : 0 ≤ b) (b1 : b ≤ 65535) (w : World) :
    Calls Try.prog 25 #[.int .u64 a, .int .u16 b] w fun e w' => e = .returned (.int .u64 (widI a b)) ∧ w' = w := by
  go_enter Try.func25, Try.ntmps25
  go_wp2
  go_ret
  exact ⟨ret_int (rwid_eq a b b0 b1), rfl⟩
theorem rnew_good (n r : Int) (hs : 0 ≤ n ∧ n < 4611686018427387904) (hr : 1 ≤ r ∧ r ≤ 8) (w : World) :
    Calls Try.prog 17 #[.int .u64 n, .int .i64 r] w fun e w' => ∃ q, e = .returned (.pointer (some ⟨q, 0, none⟩)) ∧ q = w.heap.size ∧ RefR w' q ∧ Below w.heap.size w w' := by
  have h1 : ¬ 4611686018427387904 ≤ n := by omega
  have h2 : ¬ r < 1 := by omega
  have h3 : ¬ 8 < r := by omega
  go_enter Try.func17, Try.ntmps17
  go_wp2
  go_ret
  exact ⟨w.heap.size, rfl, rfl, ⟨n, 0, r, by simp, by simp, by simp, by simp, by simp, by omega, by omega⟩, fresh _ _⟩
set_option maxHeartbeats 400000 in
theorem rlimit_any {w : World} {q : Nat} {n h r : Int} (k : RefV w q n h r) :
    Calls Try.prog 26 #[.pointer (some ⟨q, 0, none⟩)] w fun e w' => ∃ l, e = .returned (.int .u64 l) ∧ (0 ≤ l ∧ l ≤ 18446744073709551615) ∧ ∃ j, w' = w.drewN j := by
  have hc0 := k.c0
  have hc1 := k.c1
  have hc2 := k.c2
  clear k
  go_enter Try.func26, Try.ntmps26
  go_wp2_with fail
  go_quiet (fail)
  go_wp2_with fail
  go_ret
  exact ⟨_, rfl, by rw [IntKind.wrap_u64]; omega, nq, rfl⟩
set_option maxHeartbeats 400000 in
theorem rfree_any {w : World} {q : Nat} (k : RefR w q) :
    Calls Try.prog 22 #[.pointer (some ⟨q, 0, none⟩)] w fun e w' => EndB e ∧ RefR w' q ∧ Sans (· = q) w w' := by
  obtain ⟨n, h, r, k⟩ := k
  have K : Hid (RefV w q n h r) := k
  have hc1 := k.c1
  have hf1 := k.f1
  clear k
  by_cases hz : h = 0
  · subst hz
    go_enter Try.func22, Try.ntmps22
    go_wp2_with fail
    go_ret
    exact ⟨⟨false, rfl⟩, ⟨_, _, _, K.out⟩, Sans.refl _ _⟩
  · have hz2 : (h == 0) = false := by simp; omega
    clear hz
    go_enter Try.func22, Try.ntmps22
    go_wp2_with fail
    go_ret
    exact ⟨⟨true, rfl⟩, ⟨_, _, _, K.out.set1 _⟩, Sans.of_set _ _ _ rfl⟩
set_option maxHeartbeats 400000 in
theorem rcome_any {w : World} {q : Nat} (k : RefR w q) (x : Int) (hx : 0 ≤ x ∧ x ≤ 65535) :
    Calls Try.prog 21 #[.pointer (some ⟨q, 0, none⟩), .int .u16 x] w fun e w' => ∃ c, e = .returned (.int .i64 c) ∧ (0 ≤ c ∧ c ≤ 61) ∧ RefR w' q ∧ Sans (· = q) w w' := by
  obtain ⟨n, h, r, k⟩ := k
  have K : Hid (RefV w q n h r) := k
  have hc0 := k.c0
  have n0 := k.n0
  have n1 := k.n1
  obtain ⟨v, hv⟩ : ∃ v, widI n x = v := ⟨_, rfl⟩
  have hvr := widI_range n x
  rw [hv] at hvr
  have HV : Hid (widI n x = v) := hv
  clear k hv
  by_cases hvn : v < n
  · go_enter Try.func21, Try.ntmps21
    go_wp2_with fail
    refine (rwiden_any n x n0 n1 hx.1 hx.2 _).mono ?_
    rintro e w ⟨rfl, rfl⟩
    rw [HV.out]
    go_wp2_with fail
    go_ret
    exact ⟨60, rfl, by omega, ⟨_, _, _, K.out⟩, Sans.refl _ _⟩
  · go_enter Try.func21, Try.ntmps21
    go_wp2_with fail
    refine (rwiden_any n x n0 n1 hx.1 hx.2 _).mono ?_
    rintro e w ⟨rfl, rfl⟩
    rw [HV.out]
    go_wp2_with fail
    refine (rlimit_any K.out).mono ?_
    rintro e w1 ⟨l, rfl, hl, j, hw1⟩
    have K1 : Hid (RefV w1 q n h r) := by rw [hw1]; exact K.out.sans (Sans.drewN (F := (· ≠ q)) _ _) (fun e => e rfl)
    have S1 : Hid (Sans (· = q) w w1) := by rw [hw1]; exact Sans.drewN _ _
    clear hw1 K hc0
    have hc0 := K1.out.c0
    have hc1 := K1.out.c1
    have hf0 := K1.out.f0
    have hf1 := K1.out.f1
    by_cases hlv : l ≤ v
    · go_wp2_with fail
      go_ret
      exact ⟨61, rfl, by omega, ⟨_, _, _, K1.out⟩, S1.out⟩
    · go_wp2_with fail
      go_ret
      exact ⟨0, rfl, by omega, ⟨_, _, _, (K1.out.set1 _).set0 _ (by first | omega | (rw [IntKind.wrap_u64]; omega)) (by first | omega | (rw [IntKind.wrap_u64]; omega))⟩, (S1.out.then (Sans.of_set _ _ _ rfl)).then (Sans.of_set _ _ _ rfl)⟩
set_option maxHeartbeats 400000 in
theorem rhear_any {w : World} {q : Nat} (k : RefR w q) (x : Int) (hx : 0 ≤ x ∧ x ≤ 65535) :
    Calls Try.prog 23 #[.pointer (some ⟨q, 0, none⟩), .int .u16 x] w fun e w' => EndB e ∧ RefR w' q ∧ Sans (· = q) w w' := by
  obtain ⟨n, h, r, k⟩ := k
  have K : Hid (RefV w q n h r) := k
  have hc0 := k.c0
  have n0 := k.n0
  have n1 := k.n1
  obtain ⟨v, hv⟩ : ∃ v, widI n x = v := ⟨_, rfl⟩
  have hvr := widI_range n x
  rw [hv] at hvr
  have HV : Hid (widI n x = v) := hv
  clear k hv
  by_cases hvn : n < v
  · go_enter Try.func23, Try.ntmps23
    go_wp2_with fail
    refine (rwiden_any n x n0 n1 hx.1 hx.2 _).mono ?_
    rintro e w ⟨rfl, rfl⟩
    rw [HV.out]
    go_wp2_with fail
    refine (rlimit_any K.out).mono ?_
    rintro e w1 ⟨l, rfl, hl, j, hw1⟩
    have K1 : Hid (RefV w1 q n h r) := by rw [hw1]; exact K.out.sans (Sans.drewN (F := (· ≠ q)) _ _) (fun e => e rfl)
    have S1 : Hid (Sans (· = q) w w1) := by rw [hw1]; exact Sans.drewN _ _
    clear hw1 K hc0
    have hc0 := K1.out.c0
    have hf0 := K1.out.f0
    by_cases hlv : v ≤ l
    · go_wp2_with fail
      go_ret
      exact ⟨⟨true, rfl⟩, ⟨_, _, _, K1.out.set0 v (by omega) (by omega)⟩, S1.out.then (Sans.of_set _ _ _ rfl)⟩
    · go_wp2_with fail
      go_ret
      exact ⟨⟨false, rfl⟩, ⟨_, _, _, K1.out⟩, S1.out⟩
  · go_enter Try.func23, Try.ntmps23
    go_wp2_with fail
    refine (rwiden_any n x n0 n1 hx.1 hx.2 _).mono ?_
    rintro e w ⟨rfl, rfl⟩
    rw [HV.out]
    go_wp2_with fail
    go_ret
    exact ⟨⟨false, rfl⟩, ⟨_, _, _, K.out⟩, Sans.refl _ _⟩
end Go.Proofs.Ytcmfnhakmjginaa
