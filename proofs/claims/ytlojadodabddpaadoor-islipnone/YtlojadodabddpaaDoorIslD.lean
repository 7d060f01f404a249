/-
  Package islip, as it landed: the turns moved by pairs (move), and a pair's requests taken away (shut). Conditions: none but that the arbiter is one, and that the pairs are of its ports.
-/
import Derived.Test.YtlojadodabddpaaDoorIslC
import Derived.BigRegion
namespace Go.Proofs.YtlojadodabddpaaDoor
open Go.ChangeShapes Go.WideShapes Go.ChangeAt Go.RowKit
set_option linter.unusedVariables false

/-- pairs lie in block b -/
def Prs (w : World) (b : Nat) (xs : List (Nat × Nat)) : Prop := ∀ k x, xs[k]? = some x → w.cell? ⟨b, k * 2, none⟩ = some (.int .i64 (x.1 : Nat)) ∧ w.cell? ⟨b, k * 2 + 1, none⟩ = some (.int .i64 (x.2 : Nat))
theorem Prs.sans {F : Nat → Prop} {w w' : World} {b : Nat} {xs : List (Nat × Nat)} (h : Prs w b xs) (k : Sans F w w') (hn : ¬ F b) : Prs w' b xs := fun j x hx => by
  have := h j x hx
  exact ⟨(k.cell (p := ⟨b, j * 2, none⟩) (cell_lt this.1) hn).trans this.1, (k.cell (p := ⟨b, j * 2 + 1, none⟩) (cell_lt this.2) hn).trans this.2⟩
theorem Prs.below {w w' : World} {b : Nat} {xs : List (Nat × Nat)} (h : Prs w b xs) (k : Below w.heap.size w w') : Prs w' b xs := h.sans (F := fun _ => False) (Sans.of_below k) (fun e => e)
theorem PRow.open {w : World} {base : Nat} {v : Value} {xs : List (Nat × Nat)} (h : PRow w base v xs) (hne : xs ≠ []) : ∃ b cap, v = .slice (some ⟨b, 0, none⟩) xs.length cap ∧ base ≤ b ∧ b < w.heap.size ∧ Prs w b xs := by
  unfold PRow at h
  rcases h.2 with ⟨_, h0⟩ | ⟨b, cap, cur, hv, hb, hg, _⟩
  · exact absurd (List.eq_nil_of_length_eq_zero h0) hne
  · subst hv
    refine ⟨b, cap, rfl, hb, (Array.getElem?_eq_some_iff.1 hg).1, fun k x hx => ?_⟩
    have hk : k < xs.length := (List.getElem?_eq_some_iff.1 hx).1
    have := pcells_at xs k x hx
    rw [Nat.mul_comm k 2, h.cellAt (2 * k) (by omega), h.cellAt (2 * k + 1) (by omega)]
    exact this
theorem PRow.empty {w : World} {base : Nat} {v : Value} (h : PRow w base v []) : ∃ a cap, v = .slice a 0 cap := by
  unfold PRow at h
  rcases h.2 with ⟨hv, _⟩ | ⟨b, cap, cur, hv, _⟩
  · exact ⟨none, 0, hv⟩
  · exact ⟨_, cap, hv⟩

namespace Isl
def stepG (n : Nat) (G : Nat → Nat) (x : Nat × Nat) : Nat → Nat := fun o => if o = x.2 then (x.1 + 1) % n else G o
def stepA (n : Nat) (A : Nat → Nat) (x : Nat × Nat) : Nat → Nat := fun i => if i = x.1 then (x.2 + 1) % n else A i
def mvG (n : Nat) (xs : List (Nat × Nat)) (G : Nat → Nat) : Nat → Nat := xs.foldl (stepG n) G
def mvA (n : Nat) (xs : List (Nat × Nat)) (A : Nat → Nat) : Nat → Nat := xs.foldl (stepA n) A
theorem take_snoc {xs : List (Nat × Nat)} {k : Nat} {x : Nat × Nat} (h : xs[k]? = some x) : xs.take (k + 1) = xs.take k ++ [x] := by
  rw [List.take_add_one, h]; rfl
theorem mvG_snoc {n k : Nat} {xs : List (Nat × Nat)} {x : Nat × Nat} {G : Nat → Nat} (h : xs[k]? = some x) : mvG n (xs.take (k + 1)) G = stepG n (mvG n (xs.take k) G) x := by
  unfold mvG
  rw [take_snoc h, List.foldl_append]
  rfl
theorem mvA_snoc {n k : Nat} {xs : List (Nat × Nat)} {x : Nat × Nat} {A : Nat → Nat} (h : xs[k]? = some x) : mvA n (xs.take (k + 1)) A = stepA n (mvA n (xs.take k) A) x := by
  unfold mvA
  rw [take_snoc h, List.foldl_append]
  rfl
theorem mvG_prs {R G A : Nat → Nat} {n : Nat} {m : Nat → Int} : ∀ k o, (∀ i, i < k → acc R G A n m i ≠ (o : Nat)) ∧ mvG n (prs (acc R G A n m) k) G o = G o ∨ ∃ i, i < k ∧ acc R G A n m i = (o : Nat) ∧ mvG n (prs (acc R G A n m) k) G o = (i + 1) % n
  | 0, o => .inl ⟨fun i hi => by omega, rfl⟩
  | k + 1, o => by
    have ih := mvG_prs (R := R) (G := G) (A := A) (n := n) (m := m) k o
    rcases acc_cases (R := R) (G := G) (A := A) (n := n) (m := m) k with ⟨e, _⟩ | ⟨p, hp, e, hg⟩
    · rw [prs_miss e]
      rcases ih with ⟨h1, h2⟩ | ⟨i, hi, h1, h2⟩
      · refine .inl ⟨fun i hi => ?_, h2⟩
        rcases Nat.lt_or_ge i k with h | h
        · exact h1 i h
        · obtain rfl : i = k := by omega
          omega
      · exact .inr ⟨i, by omega, h1, h2⟩
    · rw [prs_hit e]
      have es : mvG n (prs (acc R G A n m) k ++ [(k, p)]) G o = if o = p then (k + 1) % n else mvG n (prs (acc R G A n m) k) G o := by
        unfold mvG
        rw [List.foldl_append]
        rfl
      rw [es]
      by_cases hop : o = p
      · subst hop
        rw [if_pos rfl]
        exact .inr ⟨k, by omega, e, rfl⟩
      · rw [if_neg hop]
        rcases ih with ⟨h1, h2⟩ | ⟨i, hi, h1, h2⟩
        · refine .inl ⟨fun i hi => ?_, h2⟩
          rcases Nat.lt_or_ge i k with h | h
          · exact h1 i h
          · obtain rfl : i = k := by omega
            omega
        · exact .inr ⟨i, by omega, h1, h2⟩
theorem mvG_all (R G A : Nat → Nat) (n : Nat) (m : Nat → Int) : mvG n (prs (acc R G A n m) n) G = movG R G A n m := by
  funext o
  rcases mvG_prs (R := R) (G := G) (A := A) (n := n) (m := m) n o with ⟨h1, h2⟩ | ⟨i, hi, h1, h2⟩
  · rw [h2, movG_no h1]
  · rw [h2, movG_at h1]
theorem mvA_prs {R G A : Nat → Nat} {n : Nat} {m : Nat → Int} : ∀ k i, mvA n (prs (acc R G A n m) k) A i = if i < k then movA R G A n m i else A i
  | 0, i => by rw [if_neg (by omega)]; rfl
  | k + 1, i => by
    have ih := mvA_prs (R := R) (G := G) (A := A) (n := n) (m := m) k i
    rcases acc_cases (R := R) (G := G) (A := A) (n := n) (m := m) k with ⟨e, _⟩ | ⟨p, hp, e, hg⟩
    · rw [prs_miss e, ih]
      rcases Nat.lt_or_ge i k with h | h
      · rw [if_pos h, if_pos (by omega)]
      · rw [if_neg (by omega)]
        by_cases h2 : i = k
        · subst h2; rw [if_pos (by omega), movA_no e]
        · rw [if_neg (by omega)]
    · rw [prs_hit e]
      have es : mvA n (prs (acc R G A n m) k ++ [(k, p)]) A i = if i = k then (p + 1) % n else mvA n (prs (acc R G A n m) k) A i := by
        unfold mvA
        rw [List.foldl_append]
        rfl
      rw [es, ih]
      by_cases h2 : i = k
      · subst h2; rw [if_pos rfl, if_pos (by omega), movA_at e]
      · rw [if_neg h2]
        rcases Nat.lt_or_ge i k with h | h
        · rw [if_pos h, if_pos (by omega)]
        · rw [if_neg (by omega), if_neg (by omega)]
theorem mvA_all (R G A : Nat → Nat) (n : Nat) (m : Nat → Int) : mvA n (prs (acc R G A n m) n) A = movA R G A n m := by
  funext i
  rw [mvA_prs]
  rcases Nat.lt_or_ge i n with h | h
  · rw [if_pos h]
  · rw [if_neg (by omega), movA_no (acc_out h)]
theorem stepG_lt {n : Nat} {G : Nat → Nat} (hn : 1 ≤ n) (h : ∀ o, o < n → G o < n) (x : Nat × Nat) : ∀ o, o < n → stepG n G x o < n := fun o ho => by
  unfold stepG
  split
  · exact Nat.mod_lt _ (by omega)
  · exact h o ho
theorem stepA_lt {n : Nat} {A : Nat → Nat} (hn : 1 ≤ n) (h : ∀ o, o < n → A o < n) (x : Nat × Nat) : ∀ o, o < n → stepA n A x o < n := fun o ho => by
  unfold stepA
  split
  · exact Nat.mod_lt _ (by omega)
  · exact h o ho
end Isl
/-- a turn stored into one of the two rows -/
theorem Arb.setG {w : World} {p g a n : Nat} {G A : Nat → Nat} (h : Arb w p g a n G A) (x : Nat × Nat) (hx : x.2 < n) : Arb (w.setCell ⟨g, x.2, none⟩ (.int .i64 (((x.1 + 1) % n : Nat) : Int))) p g a n (Isl.stepG n G x) A := by
  have s := Sans.of_set (F := fun j => j = g) w ⟨g, x.2, none⟩ (.int .i64 (((x.1 + 1) % n : Nat) : Int)) rfl
  refine ⟨(s.cell (p := ⟨p, 0, none⟩) h.lp h.pg).trans h.c0, (s.cell (p := ⟨p, 1, none⟩) h.lp h.pg).trans h.c1, (h.gs.set hx).congr (fun k _ => ?_), h.ac.sans s h.ga.symm, h.pg, h.pa, h.ga, h.n1, h.n2, Isl.stepG_lt h.n1 h.gl x, h.al⟩
  unfold Isl.stepG
  split <;> rfl
theorem Arb.setA {w : World} {p g a n : Nat} {G A : Nat → Nat} (h : Arb w p g a n G A) (x : Nat × Nat) (hx : x.1 < n) : Arb (w.setCell ⟨a, x.1, none⟩ (.int .i64 (((x.2 + 1) % n : Nat) : Int))) p g a n G (Isl.stepA n A x) := by
  have s := Sans.of_set (F := fun j => j = a) w ⟨a, x.1, none⟩ (.int .i64 (((x.2 + 1) % n : Nat) : Int)) rfl
  refine ⟨(s.cell (p := ⟨p, 0, none⟩) h.lp h.pa).trans h.c0, (s.cell (p := ⟨p, 1, none⟩) h.lp h.pa).trans h.c1, h.gs.sans s h.ga, (h.ac.set hx).congr (fun k _ => ?_), h.pg, h.pa, h.ga, h.n1, h.n2, h.gl, Isl.stepA_lt h.n1 h.al x⟩
  unfold Isl.stepA
  split <;> rfl
theorem tmod_nat (x n : Nat) : ((x : Int) + 1).tmod (n : Int) = (((x + 1) % n : Nat) : Int) := by
  rw [Int.tmod_eq_emod_of_nonneg (by omega)]
  simp
theorem wrap_next {x n : Nat} (h : x < n) (hn : n ≤ 16) : IntKind.i64.wrap ((x : Int) + 1) = (x : Int) + 1 := by
  rw [IntKind.wrap_i64]
  omega
set_option maxRecDepth 100000 in
set_option maxHeartbeats 2000000 in
theorem move_any {w : World} {p g a n b cap : Nat} {G A : Nat → Nat} {xs : List (Nat × Nat)} (h : Arb w p g a n G A) (hx : Prs w b xs) (hl : ∀ x ∈ xs, x.1 < n ∧ x.2 < n) (h16 : xs.length ≤ 16) (hbg : b ≠ g) (hba : b ≠ a) :
    Calls Tryd.prog 28 #[.pointer (some ⟨p, 0, none⟩), .slice (some ⟨b, 0, none⟩) xs.length cap] w fun e w' => (∃ v, e = .returned v) ∧ Arb w' p g a n (Isl.mvG n xs G) (Isl.mvA n xs A) ∧ Sans (fun j => j = g ∨ j = a) w w' := by
  have n1 := h.n1
  have n2 := h.n2
  have HA : Hid (Arb w p g a n G A) := h
  have HX : Hid (Prs w b xs) := hx
  have HL : Hid (∀ x ∈ xs, x.1 < n ∧ x.2 < n) := hl
  obtain ⟨c, hc⟩ : ∃ c, xs.length = c := ⟨_, rfl⟩
  have HC : Hid (xs.length = c) := hc
  rw [hc] at h16 ⊢
  clear h hx hl hc
  go_enter Tryd.func28, Tryd.ntmps28
  go_wp2_with fail
  go_loopw [5, 8] (fun _ i wr => ∃ k : Nat, k ≤ c ∧ i = .int .i64 k ∧ Arb wr p g a n (Isl.mvG n (xs.take k) G) (Isl.mvA n (xs.take k) A) ∧ Sans (fun j => j = g ∨ j = a) w wr) (fun _ i _ => c - (intOf i).toNat)
  case atStart => exact ⟨0, Nat.zero_le _, rfl, HA.out, Sans.refl _ _⟩
  case round =>
    obtain ⟨k, hk, rfl, hA, hS⟩ := hrel
    have HK : Hid (Arb wr p g a n (Isl.mvG n (xs.take k) G) (Isl.mvA n (xs.take k) A) ∧ Sans (fun j => j = g ∨ j = a) w wr) := ⟨hA, hS⟩
    clear hA hS
    by_cases hkc : k < c
    · obtain ⟨x, hx⟩ : ∃ x, xs[k]? = some x := ⟨_, List.getElem?_eq_getElem (by have := HC.out; omega)⟩
      obtain ⟨c1, c2⟩ := (HX.out.sans HK.out.2 (by omega)) k x hx
      obtain ⟨l1, l2⟩ := HL.out x (List.mem_of_getElem? hx)
      have HE : Hid (xs[k]? = some x) := hx
      clear hx
      obtain ⟨x1, x2⟩ := x
      dsimp only at c1 c2 l1 l2
      have hU : ∀ (U : World) (B : Nat), U = wr.alloc (.cells #[.int .i64 (x1 : Nat), .int .i64 (x2 : Nat)] 57) → B = wr.heap.size → Arb U p g a n (Isl.mvG n (xs.take k) G) (Isl.mvA n (xs.take k) A) ∧ U.cell? ⟨B, 0, none⟩ = some (.int .i64 (x1 : Nat)) ∧ U.cell? ⟨B, 1, none⟩ = some (.int .i64 (x2 : Nat)) ∧ Sans (fun j => j = g ∨ j = a) w U ∧ B ≠ g ∧ B ≠ a := by
        rintro U B rfl rfl
        have := HK.out.1.lg
        have := HK.out.1.la
        exact ⟨HK.out.1.below (fresh wr _), by simp, by simp, HK.out.2.then (Sans.alloc _ _), by omega, by omega⟩
      have HU : Hid (∀ (U : World) (B : Nat), U = wr.alloc (.cells #[.int .i64 (x1 : Nat), .int .i64 (x2 : Nat)] 57) → B = wr.heap.size → Arb U p g a n (Isl.mvG n (xs.take k) G) (Isl.mvA n (xs.take k) A) ∧ U.cell? ⟨B, 0, none⟩ = some (.int .i64 (x1 : Nat)) ∧ U.cell? ⟨B, 1, none⟩ = some (.int .i64 (x2 : Nat)) ∧ Sans (fun j => j = g ∨ j = a) w U ∧ B ≠ g ∧ B ≠ a) := hU
      clear hU
      go_wp2_with fail
      obtain ⟨U, hUe⟩ : ∃ U, U = wr.alloc (.cells #[.int .i64 (x1 : Nat), .int .i64 (x2 : Nat)] 57) := ⟨_, rfl⟩
      obtain ⟨B, hBe⟩ : ∃ B, B = wr.heap.size := ⟨_, rfl⟩
      obtain ⟨hA, b0, b1, hS, hBg, hBa⟩ := HU.out U B hUe hBe
      rw [← hUe, ← hBe]
      have HU2 : Hid (Arb U p g a n (Isl.mvG n (xs.take k) G) (Isl.mvA n (xs.take k) A) ∧ Sans (fun j => j = g ∨ j = a) w U) := ⟨hA, hS⟩
      have g0 := hA.c0
      obtain ⟨r0, f0⟩ := hA.gs x2 l2
      have HPt : Hid (Arb U.drew p g a n (Isl.mvG n (xs.take k) G) (Isl.mvA n (xs.take k) A)) := hA.below (drewN_below _ 1)
      have z0 : ((n : Int) == 0) = false := by simp; omega
      have z1 : (n : Int) ≠ 0 := by omega
      have z2 : n ≠ 0 := by omega
      have e1 := tmod_nat x1 n
      have e0 := wrap_next (show x1 < n by omega) n2
      have hp := hA.pg
      have k0 : (U.setCell ⟨g, x2, none⟩ (.int .i64 (((x1 + 1) % n : Nat) : Int))).cell? ⟨p, 0, none⟩ = some (.slice (some ⟨g, 0, none⟩) n n) := (World.cell?_setCell_other _ _ _ _ (fun e => by cases e; omega)).trans g0
      have k1 : (U.setCell ⟨g, x2, none⟩ (.int .i64 (((x1 + 1) % n : Nat) : Int))).cell? ⟨B, 0, none⟩ = some (.int .i64 (x1 : Nat)) := (World.cell?_setCell_other _ _ _ _ (fun e => by cases e; omega)).trans b0
      have k2 : (U.setCell ⟨g, x2, none⟩ (.int .i64 (((x1 + 1) % n : Nat) : Int))).cell? ⟨B, 1, none⟩ = some (.int .i64 (x2 : Nat)) := (World.cell?_setCell_other _ _ _ _ (fun e => by cases e; omega)).trans b1
      clear hA hS HU hUe hBe c1 c2
      obtain ⟨t1, ht1⟩ : ∃ t1 : Nat, (x1 + 1) % n = t1 := ⟨_, rfl⟩
      have HT1 : Hid ((x1 + 1) % n = t1) := ht1
      rw [ht1] at e1 k0 k1 k2
      clear ht1
      go_region_held3 (fun w' => w'.cell? ⟨p, 0, none⟩ = some (.slice (some ⟨g, 0, none⟩) n n) ∧ w'.cell? ⟨B, 0, none⟩ = some (.int .i64 (x1 : Nat)) ∧ w'.cell? ⟨B, 1, none⟩ = some (.int .i64 (x2 : Nat))) (go_keep) (first | (go_at_call 23; refine (ports_any HPt.out).mono ?_; rintro e w' ⟨rfl, rfl⟩))
      have hV : ∀ V : World, V = (U.setCell ⟨g, x2, none⟩ (.int .i64 (t1 : Nat))).drew → Arb V p g a n (Isl.mvG n (xs.take (k + 1)) G) (Isl.mvA n (xs.take k) A) ∧ V.cell? ⟨B, 0, none⟩ = some (.int .i64 (x1 : Nat)) ∧ V.cell? ⟨B, 1, none⟩ = some (.int .i64 (x2 : Nat)) ∧ Sans (fun j => j = g ∨ j = a) w V := by
        rintro V rfl
        have h1 := (HU2.out.1.setG (x1, x2) l2).below (drewN_below _ 1)
        dsimp only at h1
        rw [HT1.out] at h1
        rw [Isl.mvG_snoc HE.out]
        exact ⟨h1, k1, k2, (HU2.out.2.then (Sans.of_set _ _ _ (.inl rfl))).then (Sans.drew _)⟩
      obtain ⟨V, hVe⟩ : ∃ V, V = (U.setCell ⟨g, x2, none⟩ (.int .i64 (t1 : Nat))).drew := ⟨_, rfl⟩
      rw [← hVe]
      obtain ⟨hA, v0, v1, hS⟩ := hV V hVe
      have HV2 : Hid (Arb V p g a n (Isl.mvG n (xs.take (k + 1)) G) (Isl.mvA n (xs.take k) A) ∧ Sans (fun j => j = g ∨ j = a) w V) := ⟨hA, hS⟩
      have HPv : Hid (Arb V.drew p g a n (Isl.mvG n (xs.take (k + 1)) G) (Isl.mvA n (xs.take k) A)) := hA.below (drewN_below _ 1)
      have g1 := hA.c1
      obtain ⟨r1, f1⟩ := hA.ac x1 l1
      have hp2 := hA.pa
      clear k0 k1 k2 e0 e1 b0 b1 g0 r0 f0 hp HPt HU2 HT1
      have k0 : (V.setCell ⟨a, x1, none⟩ (.int .i64 (((x2 + 1) % n : Nat) : Int))).cell? ⟨p, 1, none⟩ = some (.slice (some ⟨a, 0, none⟩) n n) := (World.cell?_setCell_other _ _ _ _ (fun e => by cases e; omega)).trans g1
      have k1 : (V.setCell ⟨a, x1, none⟩ (.int .i64 (((x2 + 1) % n : Nat) : Int))).cell? ⟨B, 0, none⟩ = some (.int .i64 (x1 : Nat)) := (World.cell?_setCell_other _ _ _ _ (fun e => by cases e; omega)).trans v0
      have k2 : (V.setCell ⟨a, x1, none⟩ (.int .i64 (((x2 + 1) % n : Nat) : Int))).cell? ⟨B, 1, none⟩ = some (.int .i64 (x2 : Nat)) := (World.cell?_setCell_other _ _ _ _ (fun e => by cases e; omega)).trans v1
      have e1 := tmod_nat x2 n
      have e0 := wrap_next (show x2 < n by omega) n2
      clear hA hS hV hVe
      obtain ⟨t2, ht2⟩ : ∃ t2 : Nat, (x2 + 1) % n = t2 := ⟨_, rfl⟩
      have HT2 : Hid ((x2 + 1) % n = t2) := ht2
      rw [ht2] at e1 k0 k1 k2
      clear ht2
      go_wp2_with fail
      go_region_held3 (fun w' => w'.cell? ⟨p, 1, none⟩ = some (.slice (some ⟨a, 0, none⟩) n n) ∧ w'.cell? ⟨B, 0, none⟩ = some (.int .i64 (x1 : Nat)) ∧ w'.cell? ⟨B, 1, none⟩ = some (.int .i64 (x2 : Nat))) (go_keep) (first | (go_at_call 23; refine (ports_any HPv.out).mono ?_; rintro e w' ⟨rfl, rfl⟩))
      clear k0 k1 k2 e0 e1 v0 v1 g1 r1 f1
      go_wp2_with fail
      go_roundw
      case rel =>
        have h1 := (HV2.out.1.setA (x1, x2) l1).below (drewN_below _ 1)
        dsimp only at h1
        rw [HT2.out] at h1
        have h2 : Arb ((V.setCell ⟨a, x1, none⟩ (.int .i64 (t2 : Nat))).drew) p g a n (Isl.mvG n (xs.take (k + 1)) G) (Isl.mvA n (xs.take (k + 1)) A) := by rw [Isl.mvA_snoc HE.out]; exact h1
        have h3 := (HV2.out.2.then (Sans.of_set V ⟨a, x1, none⟩ (.int .i64 (t2 : Nat)) (.inr rfl))).then (Sans.drew _)
        first | exact ⟨k + 1, by omega, by go_num, h2, h3⟩ | ((repeat apply Exists.intro); exact ⟨⟨k + 1, by omega, by go_num, h2, h3⟩, rfl⟩)
      case measure => simp [intOf]; omega
    · obtain rfl : k = c := by omega
      go_wp2_with fail
      go_end0
      have e : xs.take k = xs := List.take_of_length_le (by have := HC.out; omega)
      have := HK.out
      rw [e] at this
      exact ⟨⟨_, rfl⟩, this⟩
end Go.Proofs.YtlojadodabddpaaDoor
