/-
  Package islip, as it landed: which outputs grant, by inputs (granted). Conditions: none but that the arbiter is one, and that the masks are those of who asks.
-/
import Derived.Test.YtlojadodabddpaaDoorIslA
namespace Go.Proofs.YtlojadodabddpaaDoor
open Go.ChangeShapes Go.WideShapes Go.ChangeAt Go.RowKit
set_option linter.unusedVariables false

namespace Isl
/-- the outputs below k that grant input i, as a mask -/
def offs (gr : Nat → Int) : Nat → Nat → Nat
  | 0, _ => 0
  | k + 1, i => offs gr k i + if gr k = (i : Nat) then 2 ^ k else 0
theorem offs_lt (gr : Nat → Int) : ∀ k i, offs gr k i < 2 ^ k
  | 0, i => by simp [offs]
  | k + 1, i => by
    have := offs_lt gr k i
    rw [offs, Nat.pow_succ]
    split <;> omega
theorem offs_bit (gr : Nat → Int) : ∀ k i o, (offs gr k i).testBit o = (decide (o < k) && decide (gr o = (i : Nat)))
  | 0, i, o => by simp [offs]
  | k + 1, i, o => by
    have ih := offs_bit gr k i o
    have hl := offs_lt gr k i
    rw [offs]
    by_cases h : gr k = (i : Nat)
    · rw [if_pos h, ← Mask.or_pow hl, Nat.testBit_or, ih, Nat.testBit_two_pow]
      by_cases e : k = o
      · subst e; simp [h]
      · have e2 : decide (o < k + 1) = decide (o < k) := by rw [decide_eq_decide]; omega
        simp [e, e2]
    · rw [if_neg h, Nat.add_zero, ih]
      by_cases e : k = o
      · subst e; simp [h]
      · have e2 : decide (o < k + 1) = decide (o < k) := by rw [decide_eq_decide]; omega
        rw [e2]
theorem offs_hit {gr : Nat → Int} {k i : Nat} (h : gr k = (i : Nat)) (x : Nat) : (if x = i then offs gr k i + 2 ^ k else offs gr k x) = offs gr (k + 1) x := by
  rw [offs]
  by_cases e : x = i
  · subst e; rw [if_pos rfl, if_pos h]
  · rw [if_neg e, if_neg (by omega), Nat.add_zero]
theorem offs_miss {gr : Nat → Int} {k : Nat} (h : gr k = -1) (x : Nat) : offs gr k x = offs gr (k + 1) x := by
  rw [offs, if_neg (by omega), Nat.add_zero]
theorem offs_lt16 (gr : Nat → Int) {k : Nat} (h : k ≤ 16) (i : Nat) : offs gr k i < 65536 := Nat.lt_of_lt_of_le (offs_lt gr k i) (Nat.pow_le_pow_right (by omega) h)
/-- what an input takes, out of the mask of its offers -/
theorem acc_pick {R G A : Nat → Nat} {n : Nat} {m : Nat → Int} {f : Nat} {i : Nat} (h : ∀ o, o < n → f.testBit o = decide (grant R G n m o = (i : Nat))) : Mask.pick f (A i) n = acc R G A n m i := by
  rw [pick_eq]
  exact pickP_congr h
theorem grant_pick {R G : Nat → Nat} {n : Nat} {m : Nat → Int} {f : Nat} {o : Nat} (h : ∀ i, i < n → f.testBit i = ask R n m o i) : Mask.pick f (G o) n = grant R G n m o := by
  rw [pick_eq]
  exact pickP_congr h
end Isl
theorem Arb.gat {w : World} {p g a n : Nat} {G A : Nat → Nat} (h : Arb w p g a n G A) {k : Nat} (hk : k < n) : w.cell? ⟨g, k, none⟩ = some (.int .i64 (G k : Nat)) := (h.gs k hk).1
theorem Arb.aat {w : World} {p g a n : Nat} {G A : Nat → Nat} (h : Arb w p g a n G A) {k : Nat} (hk : k < n) : w.cell? ⟨a, k, none⟩ = some (.int .i64 (A k : Nat)) := (h.ac k hk).1
/-- the masks of who asks, by outputs -/
def Open (w : World) (q n : Nat) (R : Nat → Nat) (m : Nat → Int) : Prop := ∃ O, Cols w q n O ∧ (∀ o, o < n → O o < 65536) ∧ ∀ o, o < n → ∀ i, i < n → (O o).testBit i = Isl.ask R n m o i
theorem Open.sans {F : Nat → Prop} {w w' : World} {q n : Nat} {R : Nat → Nat} {m : Nat → Int} (h : Open w q n R m) (k : Sans F w w') (hn : ¬ F q) : Open w' q n R m := by
  obtain ⟨O, h1, h2⟩ := h
  exact ⟨O, h1.sans k hn, h2⟩
theorem Open.below {w w' : World} {q n : Nat} {R : Nat → Nat} {m : Nat → Int} (h : Open w q n R m) (k : Below w.heap.size w w') : Open w' q n R m := h.sans (F := fun _ => False) (Sans.of_below k) (fun e => e)
/-- the masks of who is granted by whom, by inputs -/
def Offers (w : World) (b n : Nat) (gr : Nat → Int) : Prop := Cols w b n (Isl.offs gr n)
theorem shl_u16 {k : Nat} (h : k < 16) : IntKind.u16.wrap (2 ^ k) = ((2 ^ k : Nat) : Int) := by
  have hp : (2 : Nat) ^ k ≤ 32768 := Nat.pow_le_pow_right (j := 15) (by omega) (by omega)
  obtain ⟨p, hp2⟩ : ∃ p, 2 ^ k = p := ⟨_, rfl⟩
  have e2 : ((2 : Int) ^ k) = ((p : Nat) : Int) := by rw [← hp2]; simp
  rw [hp2] at hp ⊢
  rw [e2, IntKind.wrap_u16]
  omega
set_option maxRecDepth 100000 in
set_option maxHeartbeats 2000000 in
theorem granted_any {w : World} {p g a n q : Nat} {R G A : Nat → Nat} {m : Nat → Int} (h : Arb w p g a n G A) (hO : Open w q n R m) :
    Calls Tryd.prog 27 #[.pointer (some ⟨p, 0, none⟩), .slice (some ⟨q, 0, none⟩) n n] w fun e w' => e = .returned (.slice (some ⟨w.heap.size, 0, none⟩) n n) ∧ Offers w' w.heap.size n (Isl.grant R G n m) ∧ Below w.heap.size w w' := by
  have n1 := h.n1
  have n2 := h.n2
  have hc0 := h.c0
  obtain ⟨O, hC, h16, hbit⟩ := hO
  have HA : Hid (Arb w p g a n G A) := h
  have HO : Hid (Cols w q n O ∧ (∀ o, o < n → O o < 65536) ∧ ∀ o, o < n → ∀ i, i < n → (O o).testBit i = Isl.ask R n m o i) := ⟨hC, h16, hbit⟩
  clear h hC h16 hbit
  obtain ⟨gr, hgr⟩ : ∃ gr, Isl.grant R G n m = gr := ⟨_, rfl⟩
  have HG : Hid (Isl.grant R G n m = gr) := hgr
  rw [hgr]
  clear hgr
  have hmk := run_make_row' (P := Tryd.prog) 28 29 (.int .u16 0) 2 Tryd.underlying28 infoM rfl .i64 .i64 n (by omega) (by omega)
  have HC0 : Hid (Cols (w.alloc (.cells (madeCells #[.int .u16 0] n) 29)) w.heap.size n (fun _ => 0)) := Cols.made w n
  have HB0 : Hid (Below w.heap.size w (w.alloc (.cells (madeCells #[.int .u16 0] n) 29))) := (Below.refl _ w).alloc (Nat.le_refl _) _
  go_enter Tryd.func27, Tryd.ntmps27
  go_wp2_with fail
  refine (ports_any HA.out).mono ?_
  rintro e w1 ⟨rfl, hq⟩
  obtain rfl := hq.symm
  clear hq
  have hlp := HA.out.lp
  have hc0' := (HB0.out.cell (p := ⟨p, 0, none⟩) hlp).trans hc0
  go_wp2_with fail
  generalize w.alloc (.cells (madeCells #[.int .u16 0] n) 29) = u0 at HC0 HB0 hc0' ⊢
  go_loopw [6, 7, 8, 17] (fun _ _ _ i wr => ∃ k : Nat, k ≤ n ∧ i = .int .i64 k ∧ Cols wr w.heap.size n (Isl.offs gr k) ∧ Below w.heap.size w wr) (fun _ _ _ i _ => n - (intOf i).toNat)
  case atStart => exact ⟨0, Nat.zero_le _, rfl, HC0.out.congr (fun k _ => rfl), HB0.out⟩
  case round =>
    obtain ⟨k, hk, rfl, hc, hB⟩ := hrel
    have HC : Hid (Cols wr w.heap.size n (Isl.offs gr k)) := hc
    have HB : Hid (Below w.heap.size w wr) := hB
    clear hc hB hc0 hc0'
    by_cases hkn : k < n
    · have ha := HA.out.below HB.out
      have g1 := ha.gat hkn
      obtain ⟨o1, _⟩ := (HO.out.1.below HB.out) k hkn
      have o16 := HO.out.2.1 k hkn
      have hp : pickV (O k) (G k : Nat) n = gr k := by
        rw [pickV_in n2 (HA.out.gl k hkn), ← HG.out]
        exact Isl.grant_pick (HO.out.2.2 k hkn)
      have hgc := Isl.grant_cases (R := R) (G := G) (n := n) (m := m) k
      rw [HG.out] at hgc
      obtain ⟨x, hx⟩ : ∃ x, O k = x := ⟨_, rfl⟩
      obtain ⟨y, hy⟩ : ∃ y, G k = y := ⟨_, rfl⟩
      rw [hx] at o1 o16 hp
      rw [hy] at g1 hp
      have hne := Since.any wr
      have cx := fun n : Since wr => n.cell o1
      have HAr : Hid (∀ n' : Since wr, Arb n'.w p g a n G A) := fun n' => ha.below n'.h
      have HP : Hid (pickV x (y : Nat) n = gr k) := hp
      have hgc' : gr k = -1 ∨ ∃ i : Nat, i < n ∧ gr k = (i : Nat) := by
        rcases hgc with ⟨e, _⟩ | ⟨i, hi, e, _⟩
        · exact .inl e
        · exact .inr ⟨i, hi, e⟩
      clear ha hx hy hp o1 hgc
      go_wp2_with fail
      refine region_since (u := wr) (by kernel_rfl) (by kernel_rfl) (Below.refl _ _) ?_
      repeat (go_big_quiet_step (first | (go_at_call 23; exact Since.reads _ (ports_any (HAr.out _))) | (go_at_call 34; exact Since.calls _ (pick_any x o16 _ _ _))))
      refine wpQuiet_nil ?_
      intro _ hw'
      obtain ⟨nq, hw''⟩ := hw'
      subst hw''
      rw [HP.out]
      have HB2 : Hid (Below w.heap.size w nq.w) := later HB.out nq.h
      have HC2 : Hid (Cols nq.w w.heap.size n (Isl.offs gr k)) := HC.out.below nq.h
      clear cx hne g1
      rcases hgc' with e | ⟨i, hi, e⟩
      · rw [e]
        have HE : Hid (gr k = -1) := e
        clear e
        go_wp2_with fail
        go_roundw
        case rel => exact ⟨k + 1, by omega, by go_num, HC2.out.congr (fun z _ => Isl.offs_miss HE.out z), HB2.out⟩
        case measure => simp [intOf]; omega
      · rw [e]
        have HE : Hid (gr k = (i : Nat)) := e
        clear e
        obtain ⟨c1, f1⟩ := HC2.out i hi
        have hlt := Isl.offs_lt gr k i
        obtain ⟨z, hz⟩ : ∃ z, Isl.offs gr k i = z := ⟨_, rfl⟩
        rw [hz] at c1 hlt
        have hor : bits .or .u16 (z : Int) (IntKind.u16.wrap (2 ^ k)) = ((z + 2 ^ k : Nat) : Int) := by
          rw [shl_u16 (by omega), ← Mask.or_pow hlt]
          exact u16_or_nat _ _ (Nat.lt_of_lt_of_le hlt (Nat.pow_le_pow_right (j := 16) (by omega) (by omega))) (Nat.pow_lt_pow_right (n := 16) (by omega) (by omega))
        have HR : Hid (bits .or .u16 (z : Int) (IntKind.u16.wrap (2 ^ k)) = ((z + 2 ^ k : Nat) : Int)) := hor
        have hs : Cols (nq.w.setCell ⟨w.heap.size, i, none⟩ (.int .u16 ((z + 2 ^ k : Nat) : Int))) w.heap.size n (Isl.offs gr (k + 1)) := (HC2.out.set (v := z + 2 ^ k) hi).congr (fun x _ => by rw [← hz]; exact Isl.offs_hit HE.out x)
        have HS : Hid (Cols (nq.w.setCell ⟨w.heap.size, i, none⟩ (.int .u16 ((z + 2 ^ k : Nat) : Int))) w.heap.size n (Isl.offs gr (k + 1)) ∧ Below w.heap.size w (nq.w.setCell ⟨w.heap.size, i, none⟩ (.int .u16 ((z + 2 ^ k : Nat) : Int)))) := ⟨hs, HB2.out.setCell (p := ⟨w.heap.size, i, none⟩) (Nat.le_refl _) _⟩
        clear hor hs hz hlt
        go_wp2_with fail
        go_region
        all_goals
          go_wp2_with fail
          go_roundw
          case rel =>
            rw [HR.out]
            exact ⟨k + 1, by omega, by go_num, HS.out.1.below (drewN_below _ _), later HS.out.2 (drewN_below _ _)⟩
          case measure => simp [intOf]; omega
    · obtain rfl : k = n := by omega
      go_wp2_with fail
      go_ret
      exact ⟨rfl, HC.out, HB.out⟩
end Go.Proofs.YtlojadodabddpaaDoor
