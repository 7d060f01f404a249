/-
  Contracts and plain facts that the walks lean on (IslB, IslC, IslD). Conditions: none but those that each states.
-/
import Derived.Test.YtniicgbkeifnjaaGreatDoorQ11
import Derived.BigRegion
namespace Go.Proofs.YtniicgbkeifnjaaGreatDoor.M
open Go.ChangeShapes Go.WideShapes Go.ChangeAt Go.RowKit
set_option linter.unusedVariables false
set_option maxRecDepth 100000
namespace Isl
def offs (gr : Nat → Int) : Nat → Nat → Nat
  | 0, _ => 0
  | k + 1, i => offs gr k i + if gr k = (i : Nat) then 2 ^ k else 0
theorem offs_lt (gr : Nat → Int) : ∀ k i, offs gr k i < 2 ^ k
  | 0, i => by simp [offs]
  | k + 1, i => by
    have := offs_lt gr k i
    rw [offs, Nat.pow_succ]
    split <;> omega
theorem offs_bit (gr : Nat → Int) : ∀ k i o, (offs gr k i).testBit o = (decide (o < k) && decide (gr o = (i : Nat)))
  | 0, i, o => by simp [offs]
  | k + 1, i, o => by
    have ih := offs_bit gr k i o
    have hl := offs_lt gr k i
    rw [offs]
    by_cases h : gr k = (i : Nat)
    · rw [if_pos h, ← Mask.or_pow hl, Nat.testBit_or, ih, Nat.testBit_two_pow]
      by_cases e : k = o
      · subst e; simp [h]
      · have e2 : decide (o < k + 1) = decide (o < k) := by rw [decide_eq_decide]; omega
        simp [e, e2]
    · rw [if_neg h, Nat.add_zero, ih]
      by_cases e : k = o
      · subst e; simp [h]
      · have e2 : decide (o < k + 1) = decide (o < k) := by rw [decide_eq_decide]; omega
        rw [e2]
theorem offs_hit {gr : Nat → Int} {k i : Nat} (h : gr k = (i : Nat)) (x : Nat) : (if x = i then offs gr k i + 2 ^ k else offs gr k x) = offs gr (k + 1) x := by
  rw [offs]
  by_cases e : x = i
  · subst e; rw [if_pos rfl, if_pos h]
  · rw [if_neg e, if_neg (by omega), Nat.add_zero]
theorem offs_miss {gr : Nat → Int} {k : Nat} (h : gr k = -1) (x : Nat) : offs gr k x = offs gr (k + 1) x := by
  rw [offs, if_neg (by omega), Nat.add_zero]
theorem offs_lt16 (gr : Nat → Int) {k : Nat} (h : k ≤ 16) (i : Nat) : offs gr k i < 65536 := Nat.lt_of_lt_of_le (offs_lt gr k i) (Nat.pow_le_pow_right (by omega) h)
theorem acc_pick {R G A : Nat → Nat} {n : Nat} {m : Nat → Int} {f : Nat} {i : Nat} (h : ∀ o, o < n → f.testBit o = decide (grant R G n m o = (i : Nat))) : Mask.pick f (A i) n = acc R G A n m i := by
  rw [pick_eq]
  exact pickP_congr h
theorem grant_pick {R G : Nat → Nat} {n : Nat} {m : Nat → Int} {f : Nat} {o : Nat} (h : ∀ i, i < n → f.testBit i = ask R n m o i) : Mask.pick f (G o) n = grant R G n m o := by
  rw [pick_eq]
  exact pickP_congr h
end Isl
theorem Arb.gat {w : World} {p g a n : Nat} {G A : Nat → Nat} (h : Arb w p g a n G A) {k : Nat} (hk : k < n) : w.cell? ⟨g, k, none⟩ = some (.int .i64 (G k : Nat)) := (h.gs k hk).1
theorem Arb.aat {w : World} {p g a n : Nat} {G A : Nat → Nat} (h : Arb w p g a n G A) {k : Nat} (hk : k < n) : w.cell? ⟨a, k, none⟩ = some (.int .i64 (A k : Nat)) := (h.ac k hk).1
def Open (w : World) (q n : Nat) (R : Nat → Nat) (m : Nat → Int) : Prop := ∃ O, Cols w q n O ∧ (∀ o, o < n → O o < 65536) ∧ ∀ o, o < n → ∀ i, i < n → (O o).testBit i = Isl.ask R n m o i
def Offers (w : World) (b n : Nat) (gr : Nat → Int) : Prop := Cols w b n (Isl.offs gr n)
theorem shl_u16 {k : Nat} (h : k < 16) : IntKind.u16.wrap (2 ^ k) = ((2 ^ k : Nat) : Int) := by
  have hp : (2 : Nat) ^ k ≤ 32768 := Nat.pow_le_pow_right (j := 15) (by omega) (by omega)
  obtain ⟨p, hp2⟩ : ∃ p, 2 ^ k = p := ⟨_, rfl⟩
  have e2 : ((2 : Int) ^ k) = ((p : Nat) : Int) := by rw [← hp2]; simp
  rw [hp2] at hp ⊢
  rw [e2, IntKind.wrap_u16]
  omega
set_option maxRecDepth 100000 in
set_option maxHeartbeats 2000000 in
theorem granted_any {w : World} {p g a n q : Nat} {R G A : Nat → Nat} {m : Nat → Int} (h : Arb w p g a n G A) (hO : Open w q n R m) :
    Calls Tryz.prog 169 #[.pointer (some ⟨p, 0, none⟩), .slice (some ⟨q, 0, none⟩) n n] w fun e w' => e = .returned (.slice (some ⟨w.heap.size, 0, none⟩) n n) ∧ Offers w' w.heap.size n (Isl.grant R G n m) ∧ Below w.heap.size w w' := by
  have n1 := h.n1
  have n2 := h.n2
  have hc0 := h.c0
  obtain ⟨O, hC, h16, hbit⟩ := hO
  have HA : Hid (Arb w p g a n G A) := h
  have HO : Hid (Cols w q n O ∧ (∀ o, o < n → O o < 65536) ∧ ∀ o, o < n → ∀ i, i < n → (O o).testBit i = Isl.ask R n m o i) := ⟨hC, h16, hbit⟩
  clear h hC h16 hbit
  obtain ⟨gr, hgr⟩ : ∃ gr, Isl.grant R G n m = gr := ⟨_, rfl⟩
  have HG : Hid (Isl.grant R G n m = gr) := hgr
  rw [hgr]
  clear hgr
  have hmk := run_make_row' (P := Tryz.prog) 143 28 (.int .u16 0) 2 Tryz.underlying143 infoM rfl .i64 .i64 n (by omega) (by omega)
  have HC0 : Hid (Cols (w.alloc (.cells (madeCells #[.int .u16 0] n) 28)) w.heap.size n (fun _ => 0)) := Cols.made w n
  have HB0 : Hid (Below w.heap.size w (w.alloc (.cells (madeCells #[.int .u16 0] n) 28))) := (Below.refl _ w).alloc (Nat.le_refl _) _
  go_enter Tryz.func169, Tryz.ntmps169
  go_wp2_with fail
  refine (ports_any HA.out).mono ?_
  rintro e w1 ⟨rfl, hq⟩
  obtain rfl := hq.symm
  clear hq
  have hlp := HA.out.lp
  have hc0' := (HB0.out.cell (p := ⟨p, 0, none⟩) hlp).trans hc0
  go_wp2_with fail
  generalize w.alloc (.cells (madeCells #[.int .u16 0] n) 28) = u0 at HC0 HB0 hc0' ⊢
  go_loopw [6, 7, 8, 17] (fun _ _ _ i wr => ∃ k : Nat, k ≤ n ∧ i = .int .i64 k ∧ Cols wr w.heap.size n (Isl.offs gr k) ∧ Below w.heap.size w wr) (fun _ _ _ i _ => n - (intOf i).toNat)
  case atStart => exact ⟨0, Nat.zero_le _, rfl, HC0.out.congr (fun k _ => rfl), HB0.out⟩
  case round =>
    obtain ⟨k, hk, rfl, hc, hB⟩ := hrel
    have HC : Hid (Cols wr w.heap.size n (Isl.offs gr k)) := hc
    have HB : Hid (Below w.heap.size w wr) := hB
    clear hc hB hc0 hc0'
    by_cases hkn : k < n
    · have ha := HA.out.below HB.out
      have g1 := ha.gat hkn
      obtain ⟨o1, _⟩ := (HO.out.1.below HB.out) k hkn
      have o16 := HO.out.2.1 k hkn
      have hp : pickV (O k) (G k : Nat) n = gr k := by
        rw [pickV_in n2 (HA.out.gl k hkn), ← HG.out]
        exact Isl.grant_pick (HO.out.2.2 k hkn)
      have hgc := Isl.grant_cases (R := R) (G := G) (n := n) (m := m) k
      rw [HG.out] at hgc
      obtain ⟨x, hx⟩ : ∃ x, O k = x := ⟨_, rfl⟩
      obtain ⟨y, hy⟩ : ∃ y, G k = y := ⟨_, rfl⟩
      rw [hx] at o1 o16 hp
      rw [hy] at g1 hp
      have hne := Since.any wr
      have cx := fun n : Since wr => n.cell o1
      have HAr : Hid (∀ n' : Since wr, Arb n'.w p g a n G A) := fun n' => ha.below n'.h
      have HP : Hid (pickV x (y : Nat) n = gr k) := hp
      have hgc' : gr k = -1 ∨ ∃ i : Nat, i < n ∧ gr k = (i : Nat) := by
        rcases hgc with ⟨e, _⟩ | ⟨i, hi, e, _⟩
        · exact .inl e
        · exact .inr ⟨i, hi, e⟩
      clear ha hx hy hp o1 hgc
      go_wp2_with fail
      refine region_since (u := wr) (by kernel_rfl) (by kernel_rfl) (Below.refl _ _) ?_
      repeat (go_big_quiet_step (first | (go_at_call 165; exact Since.reads _ (ports_any (HAr.out _))) | (go_at_call 212; exact Since.calls _ (pick_any x o16 _ _ _))))
      refine wpQuiet_nil ?_
      intro _ hw'
      obtain ⟨nq, hw''⟩ := hw'
      subst hw''
      rw [HP.out]
      have HB2 : Hid (Below w.heap.size w nq.w) := later HB.out nq.h
      have HC2 : Hid (Cols nq.w w.heap.size n (Isl.offs gr k)) := HC.out.below nq.h
      clear cx hne g1
      rcases hgc' with e | ⟨i, hi, e⟩
      · rw [e]
        have HE : Hid (gr k = -1) := e
        clear e
        go_wp2_with fail
        go_roundw
        case rel => exact ⟨k + 1, by omega, by go_num, HC2.out.congr (fun z _ => Isl.offs_miss HE.out z), HB2.out⟩
        case measure => simp [intOf]; omega
      · rw [e]
        have HE : Hid (gr k = (i : Nat)) := e
        clear e
        obtain ⟨c1, f1⟩ := HC2.out i hi
        have hlt := Isl.offs_lt gr k i
        obtain ⟨z, hz⟩ : ∃ z, Isl.offs gr k i = z := ⟨_, rfl⟩
        rw [hz] at c1 hlt
        have hor : bits .or .u16 (z : Int) (IntKind.u16.wrap (2 ^ k)) = ((z + 2 ^ k : Nat) : Int) := by
          rw [shl_u16 (by omega), ← Mask.or_pow hlt]
          exact u16_or_nat _ _ (Nat.lt_of_lt_of_le hlt (Nat.pow_le_pow_right (j := 16) (by omega) (by omega))) (Nat.pow_lt_pow_right (n := 16) (by omega) (by omega))
        have HR : Hid (bits .or .u16 (z : Int) (IntKind.u16.wrap (2 ^ k)) = ((z + 2 ^ k : Nat) : Int)) := hor
        have hs : Cols (nq.w.setCell ⟨w.heap.size, i, none⟩ (.int .u16 ((z + 2 ^ k : Nat) : Int))) w.heap.size n (Isl.offs gr (k + 1)) := (HC2.out.set (v := z + 2 ^ k) hi).congr (fun x _ => by rw [← hz]; exact Isl.offs_hit HE.out x)
        have HS : Hid (Cols (nq.w.setCell ⟨w.heap.size, i, none⟩ (.int .u16 ((z + 2 ^ k : Nat) : Int))) w.heap.size n (Isl.offs gr (k + 1)) ∧ Below w.heap.size w (nq.w.setCell ⟨w.heap.size, i, none⟩ (.int .u16 ((z + 2 ^ k : Nat) : Int)))) := ⟨hs, HB2.out.setCell (p := ⟨w.heap.size, i, none⟩) (Nat.le_refl _) _⟩
        clear hor hs hz hlt
        go_wp2_with fail
        go_region
        all_goals
          go_wp2_with fail
          go_roundw
          case rel =>
            rw [HR.out]
            exact ⟨k + 1, by omega, by go_num, HS.out.1.below (drewN_below _ _), later HS.out.2 (drewN_below _ _)⟩
          case measure => simp [intOf]; omega
    · obtain rfl : k = n := by omega
      go_wp2_with fail
      go_ret
      exact ⟨rfl, HC.out, HB.out⟩
end Go.Proofs.YtniicgbkeifnjaaGreatDoor.M
namespace Go.Proofs.YtniicgbkeifnjaaGreatDoor.M
open Go.ChangeShapes Go.WideShapes Go.ChangeAt Go.RowKit
set_option linter.unusedVariables false
set_option maxRecDepth 100000
def pcells (xs : List (Nat × Nat)) : List Value := xs.flatMap fun x => [.int .i64 (x.1 : Nat), .int .i64 (x.2 : Nat)]
theorem pcells_snoc (xs : List (Nat × Nat)) (x : Nat × Nat) : pcells (xs ++ [x]) = pcells xs ++ [.int .i64 (x.1 : Nat), .int .i64 (x.2 : Nat)] := by simp [pcells]
theorem pcells_at : ∀ (xs : List (Nat × Nat)) (k : Nat) (x : Nat × Nat), xs[k]? = some x → (pcells xs)[2 * k]? = some (.int .i64 (x.1 : Nat)) ∧ (pcells xs)[2 * k + 1]? = some (.int .i64 (x.2 : Nat))
  | [], k, x, h => by simp at h
  | y :: r, 0, x, h => by
    simp at h
    subst h
    simp [pcells]
  | y :: r, k + 1, x, h => by
    have := pcells_at r k x (by simpa using h)
    have e : pcells (y :: r) = .int .i64 (y.1 : Nat) :: .int .i64 (y.2 : Nat) :: pcells r := by simp [pcells]
    rw [e, show 2 * (k + 1) = 2 * k + 1 + 1 by omega]
    simpa using this
theorem infoPair : (Tryz.prog.info? 253).map (fun i => (i.zero, i.size, i.bytes)) = some (some (.agg #[.int .i64 0, .int .i64 0]), 2, 16) := by kernel_rfl
theorem two_one (a b : Int) : ∀ u ∈ [Value.int .i64 a, .int .i64 b], u.oneCell' = true := by
  intro u hu
  simp only [List.mem_cons, List.not_mem_nil, or_false] at hu
  rcases hu with rfl | rfl <;> rfl
theorem two_cell (w : World) (a b : Int) : ∀ (j : Nat) (u : Value), [Value.int .i64 a, .int .i64 b][j]? = some u → (w.alloc (.cells #[.int .i64 a, .int .i64 b] 253)).cell? ((⟨w.heap.size, 0, none⟩ : Addr).add j) = some u := by
  intro j u hu
  rw [add_lit]
  match j with
  | 0 => simpa using hu
  | 1 => simpa using hu
  | (j + 2) => simp at hu
def PRow (w : World) (base : Nat) (v : Value) (xs : List (Nat × Nat)) : Prop := w.ownsRow base 253 2 v xs.length (pcells xs)
theorem PRow.below {w w' : World} {base : Nat} {v : Value} {xs : List (Nat × Nat)} (h : PRow w base v xs) (k : Below w.heap.size w w') : PRow w' base v xs := by
  exact World.ownsRow.kept h (row := Option.none) ⟨k.os, k.tape, k.output, k.size, fun j hj _ => k.block j hj⟩ (by cases hv : v.ownBlock with | none => exact .inl rfl | some k => exact .inr (by simp))
namespace Isl
def prs (ac : Nat → Int) (k : Nat) : List (Nat × Nat) := ((List.range k).filter fun i => decide (0 ≤ ac i)).map fun i => (i, (ac i).toNat)
theorem prs_hit {ac : Nat → Int} {k o : Nat} (h : ac k = (o : Nat)) : prs ac (k + 1) = prs ac k ++ [(k, o)] := by
  simp [prs, List.range_succ, h]
theorem prs_miss {ac : Nat → Int} {k : Nat} (h : ac k = -1) : prs ac (k + 1) = prs ac k := by
  simp [prs, List.range_succ, h]
theorem prs_len (ac : Nat → Int) (k : Nat) : (prs ac k).length ≤ k := by
  have := List.length_filter_le (fun i => decide (0 ≤ ac i)) (List.range k)
  rw [List.length_range] at this
  simp only [prs, List.length_map]
  exact this
end Isl
set_option maxRecDepth 100000 in
set_option maxHeartbeats 2000000 in
theorem accepted_any {w : World} {p g a n b : Nat} {R G A : Nat → Nat} {m : Nat → Int} (h : Arb w p g a n G A) (hO : Offers w b n (Isl.grant R G n m)) :
    Calls Tryz.prog 168 #[.pointer (some ⟨p, 0, none⟩), .slice (some ⟨b, 0, none⟩) n n] w fun e w' => ∃ v, e = .returned v ∧ PRow w' w.heap.size v (Isl.prs (Isl.acc R G A n m) n) ∧ Below w.heap.size w w' := by
  have n1 := h.n1
  have n2 := h.n2
  have hc1 := h.c1
  have HA : Hid (Arb w p g a n G A) := h
  have HO : Hid (Offers w b n (Isl.grant R G n m)) := hO
  obtain ⟨i0, hi0, hz0, hz1, hz2⟩ := info_parts infoPair
  clear h hO
  obtain ⟨ac, hac⟩ : ∃ ac, Isl.acc R G A n m = ac := ⟨_, rfl⟩
  have HG : Hid (Isl.acc R G A n m = ac) := hac
  rw [hac]
  clear hac
  go_enter Tryz.func168, Tryz.ntmps168
  go_wp2_with fail
  go_loopw [5, 6, 7, 8, 14] (fun v _ _ _ i wr => ∃ k : Nat, k ≤ n ∧ i = .int .i64 k ∧ PRow wr w.heap.size v (Isl.prs ac k) ∧ Below w.heap.size w wr) (fun _ _ _ _ i _ => n - (intOf i).toNat)
  case atStart => exact ⟨0, Nat.zero_le _, rfl, World.ownsRow_nil _ _ _ _, Below.refl _ _⟩
  case round =>
    obtain ⟨k, hk, rfl, hc, hB⟩ := hrel
    have HC : Hid (PRow wr w.heap.size u5 (Isl.prs ac k)) := hc
    have HB : Hid (Below w.heap.size w wr) := hB
    clear hc hB hc1
    by_cases hkn : k < n
    · have ha := HA.out.below HB.out
      have g1 := ha.aat hkn
      have o1 : wr.cell? ⟨b, k, none⟩ = some (.int .u16 (Isl.offs (Isl.grant R G n m) n k : Nat)) := ((HO.out.below HB.out) k hkn).1
      have o16 := Isl.offs_lt16 (Isl.grant R G n m) n2 k
      have hp : pickV (Isl.offs (Isl.grant R G n m) n k) (A k : Nat) n = ac k := by
        rw [pickV_in n2 (HA.out.al k hkn), ← HG.out]
        exact Isl.acc_pick (fun o ho => by rw [Isl.offs_bit, decide_eq_true ho, Bool.true_and])
      have hgc := Isl.acc_cases (R := R) (G := G) (A := A) (n := n) (m := m) k
      rw [HG.out] at hgc
      obtain ⟨x, hx⟩ : ∃ x, Isl.offs (Isl.grant R G n m) n k = x := ⟨_, rfl⟩
      obtain ⟨y, hy⟩ : ∃ y, A k = y := ⟨_, rfl⟩
      rw [hx] at o1 o16 hp
      rw [hy] at g1 hp
      have hne := Since.any wr
      have cx := fun n : Since wr => n.cell o1
      have HAr : Hid (∀ n' : Since wr, Arb n'.w p g a n G A) := fun n' => ha.below n'.h
      have HP : Hid (pickV x (y : Nat) n = ac k) := hp
      have hgc' : ac k = -1 ∨ ∃ i : Nat, i < n ∧ ac k = (i : Nat) := by
        rcases hgc with ⟨e, _⟩ | ⟨i, hi, e, _⟩
        · exact .inl e
        · exact .inr ⟨i, hi, e⟩
      clear ha hx hy hp o1 hgc
      go_wp2_with fail
      refine region_since (u := wr) (by kernel_rfl) (by kernel_rfl) (Below.refl _ _) ?_
      repeat (go_big_quiet_step (first | (go_at_call 165; exact Since.reads _ (ports_any (HAr.out _))) | (go_at_call 212; exact Since.calls _ (pick_any x o16 _ _ _))))
      refine wpQuiet_nil ?_
      intro _ hw'
      obtain ⟨nq, hw''⟩ := hw'
      subst hw''
      rw [HP.out]
      have HB2 : Hid (Below w.heap.size w nq.w) := later HB.out nq.h
      have HC2 : Hid (PRow nq.w w.heap.size u5 (Isl.prs ac k)) := HC.out.below nq.h
      clear cx hne g1
      rcases hgc' with e | ⟨i, hi, e⟩
      · rw [e]
        have HE : Hid (ac k = -1) := e
        clear e
        go_wp2_with fail
        go_roundw
        case rel => exact ⟨k + 1, by omega, by go_num, by rw [Isl.prs_miss HE.out]; exact HC2.out, HB2.out⟩
        case measure => simp [intOf]; omega
      · rw [e]
        have HE : Hid (ac k = (i : Nat)) := e
        clear e
        have hl := Isl.prs_len ac k
        obtain ⟨c, hc⟩ : ∃ c, (Isl.prs ac k).length = c := ⟨_, rfl⟩
        have HO2 : Hid (nq.w.ownsRow w.heap.size 253 2 u5 c (pcells (Isl.prs ac k))) := by
          have := HC2.out
          unfold PRow at this
          rw [hc] at this
          exact this
        have HL : Hid ((Isl.prs ac k).length = c) := hc
        rw [hc] at hl
        have hsz := HB2.out.size
        clear hc
        go_wp2_with (at_builtin; refine wpList_append_own _ rfl _ _ 248 rfl w.heap.size 253 i0 _ 2 16 Tryz.underlying248 hi0 hz0 hz1 hz2 rfl (by decide) u5 c (pcells (Isl.prs ac k)) rfl (HO2.out.alloc _) ⟨nq.w.heap.size, 0, none⟩ 1 1 [.int .i64 (k : Nat), .int .i64 (i : Nat)] rfl rfl (two_cell nq.w (k : Nat) (i : Nat)) (two_one _ _) (by unfold maxLen; omega) (by omega) (by simp; omega) ?_; intro v' u2 hown hg hnil)
        go_roundw
        case rel =>
          have R1 : PRow u2 w.heap.size v' (Isl.prs ac (k + 1)) := by
            unfold PRow
            rw [Isl.prs_hit HE.out, pcells_snoc, List.length_append, HL.out]
            exact hown
          have R2 : Below w.heap.size w u2 := (later HB2.out (fresh _ _)).grown hg (by simp; omega) (fun j e => (HO2.out.lt j e).1)
          first | exact ⟨k + 1, by omega, by go_num, R1, R2⟩ | ((repeat apply Exists.intro); exact ⟨⟨k + 1, by omega, by go_num, R1, R2⟩, rfl⟩)
        case measure => simp [intOf]; omega
    · obtain rfl : k = n := by omega
      go_wp2_with fail
      go_ret
      exact ⟨u5, rfl, HC.out, HB.out⟩
end Go.Proofs.YtniicgbkeifnjaaGreatDoor.M
namespace Go.Proofs.YtniicgbkeifnjaaGreatDoor.M
open Go.ChangeShapes Go.WideShapes Go.ChangeAt Go.RowKit
set_option linter.unusedVariables false
set_option maxRecDepth 100000
def Prs (w : World) (b : Nat) (xs : List (Nat × Nat)) : Prop := ∀ k x, xs[k]? = some x → w.cell? ⟨b, k * 2, none⟩ = some (.int .i64 (x.1 : Nat)) ∧ w.cell? ⟨b, k * 2 + 1, none⟩ = some (.int .i64 (x.2 : Nat))
theorem Prs.sans {F : Nat → Prop} {w w' : World} {b : Nat} {xs : List (Nat × Nat)} (h : Prs w b xs) (k : Sans F w w') (hn : ¬ F b) : Prs w' b xs := fun j x hx => by
  have := h j x hx
  exact ⟨(k.cell (p := ⟨b, j * 2, none⟩) (cell_lt this.1) hn).trans this.1, (k.cell (p := ⟨b, j * 2 + 1, none⟩) (cell_lt this.2) hn).trans this.2⟩
theorem PRow.open {w : World} {base : Nat} {v : Value} {xs : List (Nat × Nat)} (h : PRow w base v xs) (hne : xs ≠ []) : ∃ b cap, v = .slice (some ⟨b, 0, none⟩) xs.length cap ∧ base ≤ b ∧ b < w.heap.size ∧ Prs w b xs := by
  unfold PRow at h
  rcases h.2 with ⟨_, h0⟩ | ⟨b, cap, cur, hv, hb, hg, _⟩
  · exact absurd (List.eq_nil_of_length_eq_zero h0) hne
  · subst hv
    refine ⟨b, cap, rfl, hb, (Array.getElem?_eq_some_iff.1 hg).1, fun k x hx => ?_⟩
    have hk : k < xs.length := (List.getElem?_eq_some_iff.1 hx).1
    have := pcells_at xs k x hx
    rw [Nat.mul_comm k 2, h.cellAt (2 * k) (by omega), h.cellAt (2 * k + 1) (by omega)]
    exact this
theorem PRow.empty {w : World} {base : Nat} {v : Value} (h : PRow w base v []) : ∃ a cap, v = .slice a 0 cap := by
  unfold PRow at h
  rcases h.2 with ⟨hv, _⟩ | ⟨b, cap, cur, hv, _⟩
  · exact ⟨none, 0, hv⟩
  · exact ⟨_, cap, hv⟩
namespace Isl
def stepG (n : Nat) (G : Nat → Nat) (x : Nat × Nat) : Nat → Nat := fun o => if o = x.2 then (x.1 + 1) % n else G o
def stepA (n : Nat) (A : Nat → Nat) (x : Nat × Nat) : Nat → Nat := fun i => if i = x.1 then (x.2 + 1) % n else A i
def mvG (n : Nat) (xs : List (Nat × Nat)) (G : Nat → Nat) : Nat → Nat := xs.foldl (stepG n) G
def mvA (n : Nat) (xs : List (Nat × Nat)) (A : Nat → Nat) : Nat → Nat := xs.foldl (stepA n) A
theorem take_snoc {xs : List (Nat × Nat)} {k : Nat} {x : Nat × Nat} (h : xs[k]? = some x) : xs.take (k + 1) = xs.take k ++ [x] := by
  rw [List.take_add_one, h]; rfl
theorem mvG_snoc {n k : Nat} {xs : List (Nat × Nat)} {x : Nat × Nat} {G : Nat → Nat} (h : xs[k]? = some x) : mvG n (xs.take (k + 1)) G = stepG n (mvG n (xs.take k) G) x := by
  unfold mvG
  rw [take_snoc h, List.foldl_append]
  rfl
theorem mvA_snoc {n k : Nat} {xs : List (Nat × Nat)} {x : Nat × Nat} {A : Nat → Nat} (h : xs[k]? = some x) : mvA n (xs.take (k + 1)) A = stepA n (mvA n (xs.take k) A) x := by
  unfold mvA
  rw [take_snoc h, List.foldl_append]
  rfl
theorem mvG_prs {R G A : Nat → Nat} {n : Nat} {m : Nat → Int} : ∀ k o, (∀ i, i < k → acc R G A n m i ≠ (o : Nat)) ∧ mvG n (prs (acc R G A n m) k) G o = G o ∨ ∃ i, i < k ∧ acc R G A n m i = (o : Nat) ∧ mvG n (prs (acc R G A n m) k) G o = (i + 1) % n
  | 0, o => .inl ⟨fun i hi => by omega, rfl⟩
  | k + 1, o => by
    have ih := mvG_prs (R := R) (G := G) (A := A) (n := n) (m := m) k o
    rcases acc_cases (R := R) (G := G) (A := A) (n := n) (m := m) k with ⟨e, _⟩ | ⟨p, hp, e, hg⟩
    · rw [prs_miss e]
      rcases ih with ⟨h1, h2⟩ | ⟨i, hi, h1, h2⟩
      · refine .inl ⟨fun i hi => ?_, h2⟩
        rcases Nat.lt_or_ge i k with h | h
        · exact h1 i h
        · obtain rfl : i = k := by omega
          omega
      · exact .inr ⟨i, by omega, h1, h2⟩
    · rw [prs_hit e]
      have es : mvG n (prs (acc R G A n m) k ++ [(k, p)]) G o = if o = p then (k + 1) % n else mvG n (prs (acc R G A n m) k) G o := by
        unfold mvG
        rw [List.foldl_append]
        rfl
      rw [es]
      by_cases hop : o = p
      · subst hop
        rw [if_pos rfl]
        exact .inr ⟨k, by omega, e, rfl⟩
      · rw [if_neg hop]
        rcases ih with ⟨h1, h2⟩ | ⟨i, hi, h1, h2⟩
        · refine .inl ⟨fun i hi => ?_, h2⟩
          rcases Nat.lt_or_ge i k with h | h
          · exact h1 i h
          · obtain rfl : i = k := by omega
            omega
        · exact .inr ⟨i, by omega, h1, h2⟩
theorem mvG_all (R G A : Nat → Nat) (n : Nat) (m : Nat → Int) : mvG n (prs (acc R G A n m) n) G = movG R G A n m := by
  funext o
  rcases mvG_prs (R := R) (G := G) (A := A) (n := n) (m := m) n o with ⟨h1, h2⟩ | ⟨i, hi, h1, h2⟩
  · rw [h2, movG_no h1]
  · rw [h2, movG_at h1]
theorem mvA_prs {R G A : Nat → Nat} {n : Nat} {m : Nat → Int} : ∀ k i, mvA n (prs (acc R G A n m) k) A i = if i < k then movA R G A n m i else A i
  | 0, i => by rw [if_neg (by omega)]; rfl
  | k + 1, i => by
    have ih := mvA_prs (R := R) (G := G) (A := A) (n := n) (m := m) k i
    rcases acc_cases (R := R) (G := G) (A := A) (n := n) (m := m) k with ⟨e, _⟩ | ⟨p, hp, e, hg⟩
    · rw [prs_miss e, ih]
      rcases Nat.lt_or_ge i k with h | h
      · rw [if_pos h, if_pos (by omega)]
      · rw [if_neg (by omega)]
        by_cases h2 : i = k
        · subst h2; rw [if_pos (by omega), movA_no e]
        · rw [if_neg (by omega)]
    · rw [prs_hit e]
      have es : mvA n (prs (acc R G A n m) k ++ [(k, p)]) A i = if i = k then (p + 1) % n else mvA n (prs (acc R G A n m) k) A i := by
        unfold mvA
        rw [List.foldl_append]
        rfl
      rw [es, ih]
      by_cases h2 : i = k
      · subst h2; rw [if_pos rfl, if_pos (by omega), movA_at e]
      · rw [if_neg h2]
        rcases Nat.lt_or_ge i k with h | h
        · rw [if_pos h, if_pos (by omega)]
        · rw [if_neg (by omega), if_neg (by omega)]
theorem mvA_all (R G A : Nat → Nat) (n : Nat) (m : Nat → Int) : mvA n (prs (acc R G A n m) n) A = movA R G A n m := by
  funext i
  rw [mvA_prs]
  rcases Nat.lt_or_ge i n with h | h
  · rw [if_pos h]
  · rw [if_neg (by omega), movA_no (acc_out h)]
theorem stepG_lt {n : Nat} {G : Nat → Nat} (hn : 1 ≤ n) (h : ∀ o, o < n → G o < n) (x : Nat × Nat) : ∀ o, o < n → stepG n G x o < n := fun o ho => by
  unfold stepG
  split
  · exact Nat.mod_lt _ (by omega)
  · exact h o ho
theorem stepA_lt {n : Nat} {A : Nat → Nat} (hn : 1 ≤ n) (h : ∀ o, o < n → A o < n) (x : Nat × Nat) : ∀ o, o < n → stepA n A x o < n := fun o ho => by
  unfold stepA
  split
  · exact Nat.mod_lt _ (by omega)
  · exact h o ho
end Isl
theorem Arb.setG {w : World} {p g a n : Nat} {G A : Nat → Nat} (h : Arb w p g a n G A) (x : Nat × Nat) (hx : x.2 < n) : Arb (w.setCell ⟨g, x.2, none⟩ (.int .i64 (((x.1 + 1) % n : Nat) : Int))) p g a n (Isl.stepG n G x) A := by
  have s := Sans.of_set (F := fun j => j = g) w ⟨g, x.2, none⟩ (.int .i64 (((x.1 + 1) % n : Nat) : Int)) rfl
  refine ⟨(s.cell (p := ⟨p, 0, none⟩) h.lp h.pg).trans h.c0, (s.cell (p := ⟨p, 1, none⟩) h.lp h.pg).trans h.c1, (h.gs.set hx).congr (fun k _ => ?_), h.ac.sans s h.ga.symm, h.pg, h.pa, h.ga, h.n1, h.n2, Isl.stepG_lt h.n1 h.gl x, h.al⟩
  unfold Isl.stepG
  split <;> rfl
theorem Arb.setA {w : World} {p g a n : Nat} {G A : Nat → Nat} (h : Arb w p g a n G A) (x : Nat × Nat) (hx : x.1 < n) : Arb (w.setCell ⟨a, x.1, none⟩ (.int .i64 (((x.2 + 1) % n : Nat) : Int))) p g a n G (Isl.stepA n A x) := by
  have s := Sans.of_set (F := fun j => j = a) w ⟨a, x.1, none⟩ (.int .i64 (((x.2 + 1) % n : Nat) : Int)) rfl
  refine ⟨(s.cell (p := ⟨p, 0, none⟩) h.lp h.pa).trans h.c0, (s.cell (p := ⟨p, 1, none⟩) h.lp h.pa).trans h.c1, h.gs.sans s h.ga, (h.ac.set hx).congr (fun k _ => ?_), h.pg, h.pa, h.ga, h.n1, h.n2, h.gl, Isl.stepA_lt h.n1 h.al x⟩
  unfold Isl.stepA
  split <;> rfl
theorem tmod_nat (x n : Nat) : ((x : Int) + 1).tmod (n : Int) = (((x + 1) % n : Nat) : Int) := by
  rw [Int.tmod_eq_emod_of_nonneg (by omega)]
  simp
theorem wrap_next {x n : Nat} (h : x < n) (hn : n ≤ 16) : IntKind.i64.wrap ((x : Int) + 1) = (x : Int) + 1 := by
  rw [IntKind.wrap_i64]
  omega
set_option maxRecDepth 100000 in
set_option maxHeartbeats 2000000 in
theorem move_any {w : World} {p g a n b cap : Nat} {G A : Nat → Nat} {xs : List (Nat × Nat)} (h : Arb w p g a n G A) (hx : Prs w b xs) (hl : ∀ x ∈ xs, x.1 < n ∧ x.2 < n) (h16 : xs.length ≤ 16) (hbg : b ≠ g) (hba : b ≠ a) :
    Calls Tryz.prog 170 #[.pointer (some ⟨p, 0, none⟩), .slice (some ⟨b, 0, none⟩) xs.length cap] w fun e w' => (∃ v, e = .returned v) ∧ Arb w' p g a n (Isl.mvG n xs G) (Isl.mvA n xs A) ∧ Sans (fun j => j = g ∨ j = a) w w' := by
  have n1 := h.n1
  have n2 := h.n2
  have HA : Hid (Arb w p g a n G A) := h
  have HX : Hid (Prs w b xs) := hx
  have HL : Hid (∀ x ∈ xs, x.1 < n ∧ x.2 < n) := hl
  obtain ⟨c, hc⟩ : ∃ c, xs.length = c := ⟨_, rfl⟩
  have HC : Hid (xs.length = c) := hc
  rw [hc] at h16 ⊢
  clear h hx hl hc
  go_enter Tryz.func170, Tryz.ntmps170
  go_wp2_with fail
  go_loopw [5, 8] (fun _ i wr => ∃ k : Nat, k ≤ c ∧ i = .int .i64 k ∧ Arb wr p g a n (Isl.mvG n (xs.take k) G) (Isl.mvA n (xs.take k) A) ∧ Sans (fun j => j = g ∨ j = a) w wr) (fun _ i _ => c - (intOf i).toNat)
  case atStart => exact ⟨0, Nat.zero_le _, rfl, HA.out, Sans.refl _ _⟩
  case round =>
    obtain ⟨k, hk, rfl, hA, hS⟩ := hrel
    have HK : Hid (Arb wr p g a n (Isl.mvG n (xs.take k) G) (Isl.mvA n (xs.take k) A) ∧ Sans (fun j => j = g ∨ j = a) w wr) := ⟨hA, hS⟩
    clear hA hS
    by_cases hkc : k < c
    · obtain ⟨x, hx⟩ : ∃ x, xs[k]? = some x := ⟨_, List.getElem?_eq_getElem (by have := HC.out; omega)⟩
      obtain ⟨c1, c2⟩ := (HX.out.sans HK.out.2 (by omega)) k x hx
      obtain ⟨l1, l2⟩ := HL.out x (List.mem_of_getElem? hx)
      have HE : Hid (xs[k]? = some x) := hx
      clear hx
      obtain ⟨x1, x2⟩ := x
      dsimp only at c1 c2 l1 l2
      have hU : ∀ (U : World) (B : Nat), U = wr.alloc (.cells #[.int .i64 (x1 : Nat), .int .i64 (x2 : Nat)] 253) → B = wr.heap.size → Arb U p g a n (Isl.mvG n (xs.take k) G) (Isl.mvA n (xs.take k) A) ∧ U.cell? ⟨B, 0, none⟩ = some (.int .i64 (x1 : Nat)) ∧ U.cell? ⟨B, 1, none⟩ = some (.int .i64 (x2 : Nat)) ∧ Sans (fun j => j = g ∨ j = a) w U ∧ B ≠ g ∧ B ≠ a := by
        rintro U B rfl rfl
        have := HK.out.1.lg
        have := HK.out.1.la
        exact ⟨HK.out.1.below (fresh wr _), by simp, by simp, HK.out.2.then (Sans.alloc _ _), by omega, by omega⟩
      have HU : Hid (∀ (U : World) (B : Nat), U = wr.alloc (.cells #[.int .i64 (x1 : Nat), .int .i64 (x2 : Nat)] 253) → B = wr.heap.size → Arb U p g a n (Isl.mvG n (xs.take k) G) (Isl.mvA n (xs.take k) A) ∧ U.cell? ⟨B, 0, none⟩ = some (.int .i64 (x1 : Nat)) ∧ U.cell? ⟨B, 1, none⟩ = some (.int .i64 (x2 : Nat)) ∧ Sans (fun j => j = g ∨ j = a) w U ∧ B ≠ g ∧ B ≠ a) := hU
      clear hU
      go_wp2_with fail
      obtain ⟨U, hUe⟩ : ∃ U, U = wr.alloc (.cells #[.int .i64 (x1 : Nat), .int .i64 (x2 : Nat)] 253) := ⟨_, rfl⟩
      obtain ⟨B, hBe⟩ : ∃ B, B = wr.heap.size := ⟨_, rfl⟩
      obtain ⟨hA, b0, b1, hS, hBg, hBa⟩ := HU.out U B hUe hBe
      rw [← hUe, ← hBe]
      have HU2 : Hid (Arb U p g a n (Isl.mvG n (xs.take k) G) (Isl.mvA n (xs.take k) A) ∧ Sans (fun j => j = g ∨ j = a) w U) := ⟨hA, hS⟩
      have g0 := hA.c0
      obtain ⟨r0, f0⟩ := hA.gs x2 l2
      have HPt : Hid (Arb U.drew p g a n (Isl.mvG n (xs.take k) G) (Isl.mvA n (xs.take k) A)) := hA.below (drewN_below _ 1)
      have z0 : ((n : Int) == 0) = false := by simp; omega
      have z1 : (n : Int) ≠ 0 := by omega
      have z2 : n ≠ 0 := by omega
      have e1 := tmod_nat x1 n
      have e0 := wrap_next (show x1 < n by omega) n2
      have hp := hA.pg
      have k0 : (U.setCell ⟨g, x2, none⟩ (.int .i64 (((x1 + 1) % n : Nat) : Int))).cell? ⟨p, 0, none⟩ = some (.slice (some ⟨g, 0, none⟩) n n) := (World.cell?_setCell_other _ _ _ _ (fun e => by cases e; omega)).trans g0
      have k1 : (U.setCell ⟨g, x2, none⟩ (.int .i64 (((x1 + 1) % n : Nat) : Int))).cell? ⟨B, 0, none⟩ = some (.int .i64 (x1 : Nat)) := (World.cell?_setCell_other _ _ _ _ (fun e => by cases e; omega)).trans b0
      have k2 : (U.setCell ⟨g, x2, none⟩ (.int .i64 (((x1 + 1) % n : Nat) : Int))).cell? ⟨B, 1, none⟩ = some (.int .i64 (x2 : Nat)) := (World.cell?_setCell_other _ _ _ _ (fun e => by cases e; omega)).trans b1
      clear hA hS HU hUe hBe c1 c2
      obtain ⟨t1, ht1⟩ : ∃ t1 : Nat, (x1 + 1) % n = t1 := ⟨_, rfl⟩
      have HT1 : Hid ((x1 + 1) % n = t1) := ht1
      rw [ht1] at e1 k0 k1 k2
      clear ht1
      go_region_held3 (fun w' => w'.cell? ⟨p, 0, none⟩ = some (.slice (some ⟨g, 0, none⟩) n n) ∧ w'.cell? ⟨B, 0, none⟩ = some (.int .i64 (x1 : Nat)) ∧ w'.cell? ⟨B, 1, none⟩ = some (.int .i64 (x2 : Nat))) (go_keep) (first | (go_at_call 165; refine (ports_any HPt.out).mono ?_; rintro e w' ⟨rfl, rfl⟩))
      have hV : ∀ V : World, V = (U.setCell ⟨g, x2, none⟩ (.int .i64 (t1 : Nat))).drew → Arb V p g a n (Isl.mvG n (xs.take (k + 1)) G) (Isl.mvA n (xs.take k) A) ∧ V.cell? ⟨B, 0, none⟩ = some (.int .i64 (x1 : Nat)) ∧ V.cell? ⟨B, 1, none⟩ = some (.int .i64 (x2 : Nat)) ∧ Sans (fun j => j = g ∨ j = a) w V := by
        rintro V rfl
        have h1 := (HU2.out.1.setG (x1, x2) l2).below (drewN_below _ 1)
        dsimp only at h1
        rw [HT1.out] at h1
        rw [Isl.mvG_snoc HE.out]
        exact ⟨h1, k1, k2, (HU2.out.2.then (Sans.of_set _ _ _ (.inl rfl))).then (Sans.drew _)⟩
      obtain ⟨V, hVe⟩ : ∃ V, V = (U.setCell ⟨g, x2, none⟩ (.int .i64 (t1 : Nat))).drew := ⟨_, rfl⟩
      rw [← hVe]
      obtain ⟨hA, v0, v1, hS⟩ := hV V hVe
      have HV2 : Hid (Arb V p g a n (Isl.mvG n (xs.take (k + 1)) G) (Isl.mvA n (xs.take k) A) ∧ Sans (fun j => j = g ∨ j = a) w V) := ⟨hA, hS⟩
      have HPv : Hid (Arb V.drew p g a n (Isl.mvG n (xs.take (k + 1)) G) (Isl.mvA n (xs.take k) A)) := hA.below (drewN_below _ 1)
      have g1 := hA.c1
      obtain ⟨r1, f1⟩ := hA.ac x1 l1
      have hp2 := hA.pa
      clear k0 k1 k2 e0 e1 b0 b1 g0 r0 f0 hp HPt HU2 HT1
      have k0 : (V.setCell ⟨a, x1, none⟩ (.int .i64 (((x2 + 1) % n : Nat) : Int))).cell? ⟨p, 1, none⟩ = some (.slice (some ⟨a, 0, none⟩) n n) := (World.cell?_setCell_other _ _ _ _ (fun e => by cases e; omega)).trans g1
      have k1 : (V.setCell ⟨a, x1, none⟩ (.int .i64 (((x2 + 1) % n : Nat) : Int))).cell? ⟨B, 0, none⟩ = some (.int .i64 (x1 : Nat)) := (World.cell?_setCell_other _ _ _ _ (fun e => by cases e; omega)).trans v0
      have k2 : (V.setCell ⟨a, x1, none⟩ (.int .i64 (((x2 + 1) % n : Nat) : Int))).cell? ⟨B, 1, none⟩ = some (.int .i64 (x2 : Nat)) := (World.cell?_setCell_other _ _ _ _ (fun e => by cases e; omega)).trans v1
      have e1 := tmod_nat x2 n
      have e0 := wrap_next (show x2 < n by omega) n2
      clear hA hS hV hVe
      obtain ⟨t2, ht2⟩ : ∃ t2 : Nat, (x2 + 1) % n = t2 := ⟨_, rfl⟩
      have HT2 : Hid ((x2 + 1) % n = t2) := ht2
      rw [ht2] at e1 k0 k1 k2
      clear ht2
      go_wp2_with fail
      go_region_held3 (fun w' => w'.cell? ⟨p, 1, none⟩ = some (.slice (some ⟨a, 0, none⟩) n n) ∧ w'.cell? ⟨B, 0, none⟩ = some (.int .i64 (x1 : Nat)) ∧ w'.cell? ⟨B, 1, none⟩ = some (.int .i64 (x2 : Nat))) (go_keep) (first | (go_at_call 165; refine (ports_any HPv.out).mono ?_; rintro e w' ⟨rfl, rfl⟩))
      clear k0 k1 k2 e0 e1 v0 v1 g1 r1 f1
      go_wp2_with fail
      go_roundw
      case rel =>
        have h1 := (HV2.out.1.setA (x1, x2) l1).below (drewN_below _ 1)
        dsimp only at h1
        rw [HT2.out] at h1
        have h2 : Arb ((V.setCell ⟨a, x1, none⟩ (.int .i64 (t2 : Nat))).drew) p g a n (Isl.mvG n (xs.take (k + 1)) G) (Isl.mvA n (xs.take (k + 1)) A) := by rw [Isl.mvA_snoc HE.out]; exact h1
        have h3 := (HV2.out.2.then (Sans.of_set V ⟨a, x1, none⟩ (.int .i64 (t2 : Nat)) (.inr rfl))).then (Sans.drew _)
        first | exact ⟨k + 1, by omega, by go_num, h2, h3⟩ | ((repeat apply Exists.intro); exact ⟨⟨k + 1, by omega, by go_num, h2, h3⟩, rfl⟩)
      case measure => simp [intOf]; omega
    · obtain rfl : k = c := by omega
      go_wp2_with fail
      go_end0
      have e : xs.take k = xs := List.take_of_length_le (by have := HC.out; omega)
      have := HK.out
      rw [e] at this
      exact ⟨⟨_, rfl⟩, this⟩
end Go.Proofs.YtniicgbkeifnjaaGreatDoor.M
