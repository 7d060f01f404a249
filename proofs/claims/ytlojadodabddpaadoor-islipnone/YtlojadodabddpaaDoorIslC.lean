/-
  Package islip, as it landed: which inputs take what is offered (accepted). Conditions: none but that the arbiter is one, and that the masks are those of who grants.
-/
import Derived.Test.YtlojadodabddpaaDoorIslB
namespace Go.Proofs.YtlojadodabddpaaDoor
open Go.ChangeShapes Go.WideShapes Go.ChangeAt Go.RowKit
set_option linter.unusedVariables false

/-- pairs, as cells one behind the other -/
def pcells (xs : List (Nat × Nat)) : List Value := xs.flatMap fun x => [.int .i64 (x.1 : Nat), .int .i64 (x.2 : Nat)]
theorem pcells_snoc (xs : List (Nat × Nat)) (x : Nat × Nat) : pcells (xs ++ [x]) = pcells xs ++ [.int .i64 (x.1 : Nat), .int .i64 (x.2 : Nat)] := by simp [pcells]
theorem pcells_at : ∀ (xs : List (Nat × Nat)) (k : Nat) (x : Nat × Nat), xs[k]? = some x → (pcells xs)[2 * k]? = some (.int .i64 (x.1 : Nat)) ∧ (pcells xs)[2 * k + 1]? = some (.int .i64 (x.2 : Nat))
  | [], k, x, h => by simp at h
  | y :: r, 0, x, h => by
    simp at h
    subst h
    simp [pcells]
  | y :: r, k + 1, x, h => by
    have := pcells_at r k x (by simpa using h)
    have e : pcells (y :: r) = .int .i64 (y.1 : Nat) :: .int .i64 (y.2 : Nat) :: pcells r := by simp [pcells]
    rw [e, show 2 * (k + 1) = 2 * k + 1 + 1 by omega]
    simpa using this
theorem pcells_length (xs : List (Nat × Nat)) : (pcells xs).length = xs.length * 2 := by
  induction xs with
  | nil => rfl
  | cons x r ih =>
    have : pcells (x :: r) = [.int .i64 (x.1 : Nat), .int .i64 (x.2 : Nat)] ++ pcells r := by simp [pcells]
    rw [this, List.length_append, ih]
    simp
    omega
theorem infoPair : (Tryd.prog.info? 57).map (fun i => (i.zero, i.size, i.bytes)) = some (some (.agg #[.int .i64 0, .int .i64 0]), 2, 16) := by kernel_rfl
theorem two_one (a b : Int) : ∀ u ∈ [Value.int .i64 a, .int .i64 b], u.oneCell' = true := by
  intro u hu
  simp only [List.mem_cons, List.not_mem_nil, or_false] at hu
  rcases hu with rfl | rfl <;> rfl
theorem two_cell (w : World) (a b : Int) : ∀ (j : Nat) (u : Value), [Value.int .i64 a, .int .i64 b][j]? = some u → (w.alloc (.cells #[.int .i64 a, .int .i64 b] 57)).cell? ((⟨w.heap.size, 0, none⟩ : Addr).add j) = some u := by
  intro j u hu
  rw [add_lit]
  match j with
  | 0 => simpa using hu
  | 1 => simpa using hu
  | (j + 2) => simp at hu
/-- a row of pairs of the call's own -/
def PRow (w : World) (base : Nat) (v : Value) (xs : List (Nat × Nat)) : Prop := w.ownsRow base 57 2 v xs.length (pcells xs)
theorem PRow.below {w w' : World} {base : Nat} {v : Value} {xs : List (Nat × Nat)} (h : PRow w base v xs) (k : Below w.heap.size w w') : PRow w' base v xs := by
  exact World.ownsRow.kept h (row := Option.none) ⟨k.os, k.tape, k.output, k.size, fun j hj _ => k.block j hj⟩ (by cases hv : v.ownBlock with | none => exact .inl rfl | some k => exact .inr (by simp))

namespace Isl
/-- the inputs below k that accept, each with the output that it takes -/
def prs (ac : Nat → Int) (k : Nat) : List (Nat × Nat) := ((List.range k).filter fun i => decide (0 ≤ ac i)).map fun i => (i, (ac i).toNat)
theorem prs_hit {ac : Nat → Int} {k o : Nat} (h : ac k = (o : Nat)) : prs ac (k + 1) = prs ac k ++ [(k, o)] := by
  simp [prs, List.range_succ, h]
theorem prs_miss {ac : Nat → Int} {k : Nat} (h : ac k = -1) : prs ac (k + 1) = prs ac k := by
  simp [prs, List.range_succ, h]
theorem prs_len (ac : Nat → Int) (k : Nat) : (prs ac k).length ≤ k := by
  have := List.length_filter_le (fun i => decide (0 ≤ ac i)) (List.range k)
  rw [List.length_range] at this
  simp only [prs, List.length_map]
  exact this
end Isl

set_option maxRecDepth 100000 in
set_option maxHeartbeats 2000000 in
theorem accepted_any {w : World} {p g a n b : Nat} {R G A : Nat → Nat} {m : Nat → Int} (h : Arb w p g a n G A) (hO : Offers w b n (Isl.grant R G n m)) :
    Calls Tryd.prog 26 #[.pointer (some ⟨p, 0, none⟩), .slice (some ⟨b, 0, none⟩) n n] w fun e w' => ∃ v, e = .returned v ∧ PRow w' w.heap.size v (Isl.prs (Isl.acc R G A n m) n) ∧ Below w.heap.size w w' := by
  have n1 := h.n1
  have n2 := h.n2
  have hc1 := h.c1
  have HA : Hid (Arb w p g a n G A) := h
  have HO : Hid (Offers w b n (Isl.grant R G n m)) := hO
  obtain ⟨i0, hi0, hz0, hz1, hz2⟩ := info_parts infoPair
  clear h hO
  obtain ⟨ac, hac⟩ : ∃ ac, Isl.acc R G A n m = ac := ⟨_, rfl⟩
  have HG : Hid (Isl.acc R G A n m = ac) := hac
  rw [hac]
  clear hac
  go_enter Tryd.func26, Tryd.ntmps26
  go_wp2_with fail
  go_loopw [5, 6, 7, 8, 14] (fun v _ _ _ i wr => ∃ k : Nat, k ≤ n ∧ i = .int .i64 k ∧ PRow wr w.heap.size v (Isl.prs ac k) ∧ Below w.heap.size w wr) (fun _ _ _ _ i _ => n - (intOf i).toNat)
  case atStart => exact ⟨0, Nat.zero_le _, rfl, World.ownsRow_nil _ _ _ _, Below.refl _ _⟩
  case round =>
    obtain ⟨k, hk, rfl, hc, hB⟩ := hrel
    have HC : Hid (PRow wr w.heap.size u5 (Isl.prs ac k)) := hc
    have HB : Hid (Below w.heap.size w wr) := hB
    clear hc hB hc1
    by_cases hkn : k < n
    · have ha := HA.out.below HB.out
      have g1 := ha.aat hkn
      have o1 : wr.cell? ⟨b, k, none⟩ = some (.int .u16 (Isl.offs (Isl.grant R G n m) n k : Nat)) := ((HO.out.below HB.out) k hkn).1
      have o16 := Isl.offs_lt16 (Isl.grant R G n m) n2 k
      have hp : pickV (Isl.offs (Isl.grant R G n m) n k) (A k : Nat) n = ac k := by
        rw [pickV_in n2 (HA.out.al k hkn), ← HG.out]
        exact Isl.acc_pick (fun o ho => by rw [Isl.offs_bit, decide_eq_true ho, Bool.true_and])
      have hgc := Isl.acc_cases (R := R) (G := G) (A := A) (n := n) (m := m) k
      rw [HG.out] at hgc
      obtain ⟨x, hx⟩ : ∃ x, Isl.offs (Isl.grant R G n m) n k = x := ⟨_, rfl⟩
      obtain ⟨y, hy⟩ : ∃ y, A k = y := ⟨_, rfl⟩
      rw [hx] at o1 o16 hp
      rw [hy] at g1 hp
      have hne := Since.any wr
      have cx := fun n : Since wr => n.cell o1
      have HAr : Hid (∀ n' : Since wr, Arb n'.w p g a n G A) := fun n' => ha.below n'.h
      have HP : Hid (pickV x (y : Nat) n = ac k) := hp
      have hgc' : ac k = -1 ∨ ∃ i : Nat, i < n ∧ ac k = (i : Nat) := by
        rcases hgc with ⟨e, _⟩ | ⟨i, hi, e, _⟩
        · exact .inl e
        · exact .inr ⟨i, hi, e⟩
      clear ha hx hy hp o1 hgc
      go_wp2_with fail
      refine region_since (u := wr) (by kernel_rfl) (by kernel_rfl) (Below.refl _ _) ?_
      repeat (go_big_quiet_step (first | (go_at_call 23; exact Since.reads _ (ports_any (HAr.out _))) | (go_at_call 34; exact Since.calls _ (pick_any x o16 _ _ _))))
      refine wpQuiet_nil ?_
      intro _ hw'
      obtain ⟨nq, hw''⟩ := hw'
      subst hw''
      rw [HP.out]
      have HB2 : Hid (Below w.heap.size w nq.w) := later HB.out nq.h
      have HC2 : Hid (PRow nq.w w.heap.size u5 (Isl.prs ac k)) := HC.out.below nq.h
      clear cx hne g1
      rcases hgc' with e | ⟨i, hi, e⟩
      · rw [e]
        have HE : Hid (ac k = -1) := e
        clear e
        go_wp2_with fail
        go_roundw
        case rel => exact ⟨k + 1, by omega, by go_num, by rw [Isl.prs_miss HE.out]; exact HC2.out, HB2.out⟩
        case measure => simp [intOf]; omega
      · rw [e]
        have HE : Hid (ac k = (i : Nat)) := e
        clear e
        have hl := Isl.prs_len ac k
        obtain ⟨c, hc⟩ : ∃ c, (Isl.prs ac k).length = c := ⟨_, rfl⟩
        have HO2 : Hid (nq.w.ownsRow w.heap.size 57 2 u5 c (pcells (Isl.prs ac k))) := by
          have := HC2.out
          unfold PRow at this
          rw [hc] at this
          exact this
        have HL : Hid ((Isl.prs ac k).length = c) := hc
        rw [hc] at hl
        have hsz := HB2.out.size
        clear hc
        go_wp2_with (at_builtin; refine wpList_append_own _ rfl _ _ 52 rfl w.heap.size 57 i0 _ 2 16 Tryd.underlying52 hi0 hz0 hz1 hz2 rfl (by decide) u5 c (pcells (Isl.prs ac k)) rfl (HO2.out.alloc _) ⟨nq.w.heap.size, 0, none⟩ 1 1 [.int .i64 (k : Nat), .int .i64 (i : Nat)] rfl rfl (two_cell nq.w (k : Nat) (i : Nat)) (two_one _ _) (by unfold maxLen; omega) (by omega) (by simp; omega) ?_; intro v' u2 hown hg hnil)
        go_roundw
        case rel =>
          have R1 : PRow u2 w.heap.size v' (Isl.prs ac (k + 1)) := by
            unfold PRow
            rw [Isl.prs_hit HE.out, pcells_snoc, List.length_append, HL.out]
            exact hown
          have R2 : Below w.heap.size w u2 := (later HB2.out (fresh _ _)).grown hg (by simp; omega) (fun j e => (HO2.out.lt j e).1)
          first | exact ⟨k + 1, by omega, by go_num, R1, R2⟩ | ((repeat apply Exists.intro); exact ⟨⟨k + 1, by omega, by go_num, R1, R2⟩, rfl⟩)
        case measure => simp [intOf]; omega
    · obtain rfl : k = n := by omega
      go_wp2_with fail
      go_ret
      exact ⟨u5, rfl, HC.out, HB.out⟩
end Go.Proofs.YtlojadodabddpaaDoor
