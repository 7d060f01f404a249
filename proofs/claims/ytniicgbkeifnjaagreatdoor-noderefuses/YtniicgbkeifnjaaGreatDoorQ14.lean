/-
  Contracts and plain facts that the walks lean on (IslF, WrrA). Conditions: none but those that each states.
-/
import Derived.Test.YtniicgbkeifnjaaGreatDoorQ13
namespace Go.Proofs.YtniicgbkeifnjaaGreatDoor.M
open Go.ChangeShapes Go.WideShapes Go.ChangeAt Go.RowKit
set_option linter.unusedVariables false
set_option maxRecDepth 100000
namespace Isl
def put (m : Nat → Int) (x : Nat × Nat) : Nat → Int := fun j => if j = x.1 then (x.2 : Nat) else m j
def puts (m : Nat → Int) (xs : List (Nat × Nat)) : Nat → Int := xs.foldl put m
theorem puts_snoc {m : Nat → Int} {xs : List (Nat × Nat)} {k : Nat} {x : Nat × Nat} (h : xs[k]? = some x) : puts m (xs.take (k + 1)) = put (puts m (xs.take k)) x := by
  unfold puts
  rw [take_snoc h, List.foldl_append]
  rfl
def askx (P : Nat → Nat → Bool) (xs : List (Nat × Nat)) (o i : Nat) : Bool := P o i && !(xs.any fun x => decide (x.2 = o)) && !(xs.any fun x => decide (x.1 = i))
theorem askx_nil (P : Nat → Nat → Bool) (o i : Nat) : askx P [] o i = P o i := by simp [askx]
theorem askx_snoc {P : Nat → Nat → Bool} {xs : List (Nat × Nat)} {k : Nat} {x : Nat × Nat} (h : xs[k]? = some x) (o i : Nat) : (askx P (xs.take k) o i && !decide (o = x.2) && !decide (i = x.1)) = askx P (xs.take (k + 1)) o i := by
  unfold askx
  rw [take_snoc h, List.any_append, List.any_append]
  have e1 : decide (o = x.2) = decide (x.2 = o) := by rw [decide_eq_decide]; exact eq_comm
  have e2 : decide (i = x.1) = decide (x.1 = i) := by rw [decide_eq_decide]; exact eq_comm
  rw [e1, e2]
  simp only [List.any_cons, List.any_nil, Bool.or_false]
  generalize decide (x.2 = o) = b1
  generalize decide (x.1 = i) = b2
  generalize (xs.take k).any (fun x => decide (x.2 = o)) = b3
  generalize (xs.take k).any (fun x => decide (x.1 = i)) = b4
  generalize P o i = b5
  cases b1 <;> cases b2 <;> cases b3 <;> cases b4 <;> cases b5 <;> rfl
section
variable {R G A : Nat → Nat} {n : Nat} {m : Nat → Int}
theorem prs_mem {k : Nat} {x : Nat × Nat} : x ∈ prs (acc R G A n m) k ↔ x.1 < k ∧ acc R G A n m x.1 = (x.2 : Nat) := by
  unfold prs
  rw [List.mem_map]
  constructor
  · rintro ⟨i, hi, rfl⟩
    rw [List.mem_filter, List.mem_range] at hi
    have h0 : 0 ≤ acc R G A n m i := by simpa using hi.2
    exact ⟨hi.1, by dsimp only; omega⟩
  · rintro ⟨h1, h2⟩
    refine ⟨x.1, List.mem_filter.2 ⟨List.mem_range.2 h1, by simp [h2]⟩, ?_⟩
    rw [h2]
    simp
theorem prs_lt {x : Nat × Nat} (h : x ∈ prs (acc R G A n m) n) : x.1 < n ∧ x.2 < n := by
  have := prs_mem.1 h
  exact ⟨this.1, (acc_some this.2).1⟩
theorem prs_nil (h : prs (acc R G A n m) n = []) : ∀ i, i < n → acc R G A n m i = -1 := fun i hi => by
  rcases acc_cases (R := R) (G := G) (A := A) (n := n) (m := m) i with ⟨e, _⟩ | ⟨p, hp, e, hg⟩
  · exact e
  · have : (i, p) ∈ prs (acc R G A n m) n := prs_mem.2 ⟨hi, e⟩
    rw [h] at this
    cases this
theorem puts_prs : ∀ k i, puts m (prs (acc R G A n m) k) i = if i < k then next R G A n m i else m i
  | 0, i => by rw [if_neg (by omega)]; rfl
  | k + 1, i => by
    have ih := puts_prs k i
    rcases acc_cases (R := R) (G := G) (A := A) (n := n) (m := m) k with ⟨e, _⟩ | ⟨p, hp, e, hg⟩
    · rw [prs_miss e, ih]
      rcases Nat.lt_or_ge i k with h | h
      · rw [if_pos h, if_pos (by omega)]
      · rw [if_neg (by omega)]
        by_cases h2 : i = k
        · subst h2; rw [if_pos (by omega)]; unfold next; rw [e, if_neg (by omega)]
        · rw [if_neg (by omega)]
    · rw [prs_hit e]
      have es : puts m (prs (acc R G A n m) k ++ [(k, p)]) i = if i = k then ((p : Nat) : Int) else puts m (prs (acc R G A n m) k) i := by
        unfold puts
        rw [List.foldl_append]
        rfl
      rw [es, ih]
      by_cases h2 : i = k
      · subst h2; rw [if_pos rfl, if_pos (by omega)]; unfold next; rw [e, if_pos (by omega)]
      · rw [if_neg h2]
        rcases Nat.lt_or_ge i k with h | h
        · rw [if_pos h, if_pos (by omega)]
        · rw [if_neg (by omega), if_neg (by omega)]
theorem puts_all : puts m (prs (acc R G A n m) n) = next R G A n m := by
  funext i
  rw [puts_prs]
  rcases Nat.lt_or_ge i n with h | h
  · rw [if_pos h]
  · rw [if_neg (by omega)]; unfold next; rw [acc_out h, if_neg (by omega)]
theorem askx_all {o i : Nat} (hi : i < n) : askx (ask R n m) (prs (acc R G A n m) n) o i = ask R n (next R G A n m) o i := by
  have h1 : decide (next R G A n m i < 0) = (decide (m i < 0) && !((prs (acc R G A n m) n).any fun x => decide (x.1 = i))) := by
    rcases next_cases (R := R) (G := G) (A := A) (n := n) (m := m) i with ⟨e, ea⟩ | ⟨o', e, ea⟩
    · have : ((prs (acc R G A n m) n).any fun x => decide (x.1 = i)) = false := by
        rw [List.any_eq_false]
        intro x hx
        have := prs_mem.1 hx
        simp only [decide_eq_true_eq]
        intro e2
        rw [e2, ea] at this
        omega
      rw [e, this]; simp
    · have : ((prs (acc R G A n m) n).any fun x => decide (x.1 = i)) = true := by
        rw [List.any_eq_true]
        exact ⟨(i, o'), prs_mem.2 ⟨hi, ea⟩, by simp⟩
      rw [e, this]; simp
  have h2 : taken n (next R G A n m) o = (taken n m o || ((prs (acc R G A n m) n).any fun x => decide (x.2 = o))) := by
    rw [Bool.eq_iff_iff, Bool.or_eq_true, taken_iff, taken_iff, List.any_eq_true]
    constructor
    · rintro ⟨j, hj, e⟩
      rcases next_cases (R := R) (G := G) (A := A) (n := n) (m := m) j with ⟨e', ea⟩ | ⟨o', e', ea⟩
      · exact .inl ⟨j, hj, by rw [← e', e]⟩
      · rw [e'] at e
        obtain rfl : o' = o := by omega
        exact .inr ⟨(j, o'), prs_mem.2 ⟨hj, ea⟩, by simp⟩
    · rintro (⟨j, hj, e⟩ | ⟨x, hx, e⟩)
      · exact ⟨j, hj, by rw [next_keeps (by omega), e]⟩
      · have := prs_mem.1 hx
        have e : x.2 = o := by simpa using e
        refine ⟨x.1, this.1, ?_⟩
        unfold next
        rw [this.2, if_pos (by omega), e]
  unfold askx ask
  rw [h1, h2]
  cases decide (m i < 0) <;> cases (R i).testBit o <;> cases taken n m o <;> cases ((prs (acc R G A n m) n).any fun x => decide (x.2 = o)) <;> cases ((prs (acc R G A n m) n).any fun x => decide (x.1 = i)) <;> rfl
end
def stG (R G A : Nat → Nat) (n r : Nat) : Nat → Nat := if r = 0 then G else runG R G A n
def stA (R G A : Nat → Nat) (n r : Nat) : Nat → Nat := if r = 0 then A else runA R G A n
theorem run_next (R G A : Nat → Nat) (n r : Nat) : run R G A n (r + 1) = next R (stG R G A n r) (stA R G A n r) n (run R G A n r) := by
  rcases Nat.eq_zero_or_pos r with h | h
  · subst h; rfl
  · unfold stG stA
    rw [if_neg (by omega), if_neg (by omega), run_succ R G A n r h]
theorem run_stuck {R G A : Nat → Nat} {n r : Nat} (h : ∀ i, i < n → acc R (stG R G A n r) (stA R G A n r) n (run R G A n r) i = -1) : stG R G A n r = runG R G A n ∧ stA R G A n r = runA R G A n ∧ ∀ k, r ≤ k → run R G A n k = run R G A n r := by
  have hG : stG R G A n r = runG R G A n := by
    rcases Nat.eq_zero_or_pos r with e | e
    · subst e
      show G = movG R G A n none_
      exact (movG_none h).symm
    · unfold stG; rw [if_neg (by omega)]
  have hA : stA R G A n r = runA R G A n := by
    rcases Nat.eq_zero_or_pos r with e | e
    · subst e
      show A = movA R G A n none_
      exact (movA_none h).symm
    · unfold stA; rw [if_neg (by omega)]
  refine ⟨hG, hA, fun k hk => ?_⟩
  obtain ⟨d, rfl⟩ : ∃ d, k = r + d := ⟨k - r, by omega⟩
  clear hk
  induction d with
  | zero => rfl
  | succ d ih =>
    rw [← Nat.add_assoc, run_next, ih]
    have e : stG R G A n (r + d) = stG R G A n r ∧ stA R G A n (r + d) = stA R G A n r := by
      rcases Nat.eq_zero_or_pos (r + d) with e | e
      · have : r = 0 := by omega
        subst this
        have : d = 0 := by omega
        subst this
        exact ⟨rfl, rfl⟩
      · rw [hG, hA]
        unfold stG stA
        rw [if_neg (by omega), if_neg (by omega)]
        exact ⟨rfl, rfl⟩
    rw [e.1, e.2]
    exact next_none h
end Isl
theorem open_first {w : World} {q n : Nat} {rows : List Nat} (hl : rows.length = n) (hn : n ≤ 16) (h : Cols w q n (fun k => (Mask.turn rows n).getD k 0)) : OpenP w q n (Isl.ask (fun i => rows.getD i 0) n Isl.none_) := by
  refine ⟨_, h, fun o ho => ?_, fun o ho i hi => ?_⟩
  · rw [Mask.turn_at ho]
    exact Mask.col_lt16 _ _ _ (Nat.min_le_right _ _)
  · rw [Mask.turn_at ho, Mask.col_bit, decide_eq_true (show i < min rows.length 16 by omega), Bool.true_and]
    have ht : Isl.taken n Isl.none_ o = false := by
      cases hb : Isl.taken n Isl.none_ o with
      | false => rfl
      | true => obtain ⟨j, _, e⟩ := Isl.taken_iff.1 hb; simp [Isl.none_] at e
    unfold Isl.ask
    rw [ht]
    simp [Isl.none_]
theorem noGoto_ret {Q : Exit → Act → World → Prop} {a : Act} {w : World} (h : Q .ret a w) : Exit.noGoto Q .ret a w := h
structure Mid (w wr : World) (p g a n q ob : Nat) (R G A : Nat → Nat) (r : Nat) : Prop where
  arb : Arb wr p g a n (Isl.stG R G A n r) (Isl.stA R G A n r)
  out : Ints wr ob n (Isl.run R G A n r)
  opn : OpenP wr q n (Isl.ask R n (Isl.run R G A n r))
  sans : Sans (fun j => j = g ∨ j = a) w wr
def Inn (w u : World) (p g a n q ob pb : Nat) (G A : Nat → Nat) (P : Nat → Nat → Bool) (m : Nat → Int) (xs : List (Nat × Nat)) (t sz : Nat) : Prop :=
  Arb u p g a n G A ∧ Ints u ob n (Isl.puts m (xs.take t)) ∧ OpenP u q n (Isl.askx P (xs.take t)) ∧ Prs u pb xs ∧ Sans (fun j => j = g ∨ j = a) w u ∧ sz ≤ u.heap.size
section
variable {w u : World} {p g a n q ob pb t sz : Nat} {G A : Nat → Nat} {P : Nat → Nat → Bool} {m : Nat → Int} {xs : List (Nat × Nat)}
theorem Inn.opened (h : Inn w u p g a n q ob pb G A P m xs t sz) {i : Nat} {v : Value} (o : Obj) (hq : q ≠ ob) : OpenP ((u.setCell ⟨ob, i, none⟩ v).alloc o) q n (Isl.askx P (xs.take t)) :=
  h.2.2.1.sans (F := fun j => j = ob) ((Sans.of_set (F := fun j => j = ob) u ⟨ob, i, none⟩ v rfl).then (Sans.alloc _ _)) hq
theorem Inn.step (h : Inn w u p g a n q ob pb G A P m xs t sz) {x1 x2 : Nat} {o : Obj} {u4 : World} (hx : xs[t]? = some (x1, x2)) (l1 : x1 < n) (hd : ob ≠ q ∧ ob ≠ p ∧ ob ≠ g ∧ ob ≠ a ∧ ob ≠ pb) (hd2 : q ≠ p ∧ q ≠ g ∧ q ≠ a ∧ q ≠ pb) (hw : w.heap.size ≤ ob ∧ w.heap.size ≤ q)
    (hO : OpenP u4 q n (fun x j => Isl.askx P (xs.take t) x j && !decide (x = x2) && !decide (j = x1))) (hS : Sans (fun j => j = q) ((u.setCell ⟨ob, x1, none⟩ (.int .i64 (x2 : Nat))).alloc o) u4) : Inn w u4 p g a n q ob pb G A P m xs (t + 1) sz := by
  obtain ⟨h1, h2, h3, h4, h5, h6⟩ := h
  have s1 : Sans (fun j => j = ob) u ((u.setCell ⟨ob, x1, none⟩ (.int .i64 (x2 : Nat))).alloc o) := (Sans.of_set (F := fun j => j = ob) u ⟨ob, x1, none⟩ (.int .i64 (x2 : Nat)) rfl).then (Sans.alloc _ _)
  have s2 : Sans (fun j => j = ob ∨ j = q) u u4 := (s1.mono (fun k e => .inl e)).then (hS.mono (fun k e => .inr e))
  refine ⟨h1.sans s2 (by omega) (by omega) (by omega), ?_, ?_, h4.sans s2 (by omega), ?_, Nat.le_trans h6 s2.size⟩
  · have h7 := ((h2.set (k := x1) (v := (x2 : Nat)) l1).below (fresh _ o)).sans hS (by omega)
    rw [Isl.puts_snoc hx]
    exact h7
  · exact hO.congr (fun x _ j _ => Isl.askx_snoc hx x j)
  · refine h5.trans (G := fun j => j = ob ∨ j = q) s2 (fun k e => .inr (by omega))
end
set_option maxRecDepth 100000 in
set_option maxHeartbeats 4000000 in
theorem run_yes {w : World} {p g a n : Nat} {G A : Nat → Nat} (h : Arb w p g a n G A) (x : Option Addr) (cap : Nat) (hcap : n ≤ cap) (hcm : cap ≤ 9223372036854775807) (rows : List Nat) (hl : ∀ x ∈ rows, x < 65536) (hr : Nums .u16 w x n rows) (hT : Tab w) (K : Nat) (hK1 : 1 ≤ K) (hK2 : K ≤ 16) (R : Nat → Nat) (hRr : (fun i => rows.getD i 0) = R) :
    Calls Tryz.prog 105 #[.pointer (some ⟨p, 0, none⟩), .slice x n cap, .int .i64 (K : Nat)] w fun e w' => ∃ b, e = .returned (.slice (some ⟨b, 0, none⟩) n n) ∧ w.heap.size ≤ b ∧ Ints w' b n (Isl.run R G A n K) ∧ Arb w' p g a n (Isl.runG R G A n) (Isl.runA R G A n) ∧ Sans (fun j => j = g ∨ j = a) w w' := by
  have n1 := h.n1
  have n2 := h.n2
  have lg := h.lg
  have la := h.la
  have lp := h.lp
  have HA : Hid (Arb w p g a n G A) := h
  have HR : Hid (Nums .u16 w x n rows) := hr
  have HL : Hid (∀ x ∈ rows, x < 65536) := hl
  have HT : Hid (Tab w) := hT
  have HN : Hid (rows.length = n) := hr.1
  clear h hr hl hT
  have d1 : decide ((K : Int) < 1) = false := decide_eq_false (by omega)
  have d2 : decide ((16 : Int) < (K : Int)) = false := decide_eq_false (by omega)
  go_enter Tryz.func105, Tryz.ntmps105
  go_wp2_with fail
  refine wp_scope_straight ?_
  go_wp2_with (first | (go_at_call 165; refine (ports_any HA.out).mono ?_; rintro e w' ⟨rfl, hq⟩; obtain rfl := hq.symm; clear hq))
  refine (turn_cols x n cap hcap hcm rows HL.out n n1 n2 _ HR.out HT.out).mono ?_
  rintro e w1 ⟨q, rfl, hq, hqs, hb⟩
  have HA1 : Hid (Arb w1 p g a n G A) := HA.out.below hb
  have HQ : Hid (OpenP w1 q n (Isl.ask R n Isl.none_)) := by
    have := open_first HN.out n2 hq
    rwa [hRr] at this
  have HB1 : Hid (Below w.heap.size w w1) := hb
  have hz1 := hb.size
  have hqn : q ≠ g ∧ q ≠ a ∧ q ≠ p := by omega
  have lq := cell_lt (hq 0 n1).1
  have HA2 : Hid (Arb (w1.alloc (.cells #[.int .i64 (-1)] 3)) p g a n G A) := HA1.out.below (fresh _ _)
  clear hq hb
  go_wp2_with (first | (go_at_call 165; refine (ports_any HA2.out).mono ?_; rintro e w' ⟨rfl, hq⟩; obtain rfl := hq.symm; clear hq))
  refine (repeat_any (b := w1.heap.size) (y := -1) n ⟨n1, n2⟩ (by simp)).mono ?_
  rintro e w2 ⟨rfl, hI, hb⟩
  obtain ⟨ob, hob⟩ : ∃ ob, (w1.alloc (.cells #[.int .i64 (-1)] 3)).heap.size = ob := ⟨_, rfl⟩
  rw [hob] at hI hb ⊢
  have hb2 : Below w1.heap.size w1 w2 := by
    have := (fresh w1 (.cells #[.int .i64 (-1)] 3)).trans (hb.mono (by rw [← hob]; simp))
    exact this
  have hobn : w1.heap.size ≤ ob := by rw [← hob]; simp
  have HM : Hid (Mid w w2 p g a n q ob R G A 0) := ⟨HA1.out.below hb2, hI, HQ.out.sans (Sans.of_below (F := fun _ => False) hb2) (fun e => e), Sans.of_below (later HB1.out hb2)⟩
  have hz2 := hb2.size
  have lob : ob < w2.heap.size := hI.lt n1
  clear hb hb2 hI HA2 HA1 HQ HB1 HA HR HL HT HN hRr
  clear hob
  go_wp2_with fail
  refine wp_label ?_
  go_wp2_with fail
  go_loopw [9, 10, 12, 35] (fun _ _ _ v wr => ∃ r : Nat, r ≤ K ∧ v = .int .i64 r ∧ Mid w wr p g a n q ob R G A r ∧ w2.heap.size ≤ wr.heap.size) (fun _ _ _ v _ => K - (intOf v).toNat)
  case atStart => exact ⟨0, Nat.zero_le _, rfl, HM.out, Nat.le_refl _⟩
  case round =>
    obtain ⟨r, hr, rfl, hM, hsz⟩ := hrel
    have HM2 : Hid (Mid w wr p g a n q ob R G A r) := hM
    clear hM HM
    by_cases hrK : r < K
    · obtain ⟨m, hm⟩ : ∃ m, Isl.run R G A n r = m := ⟨_, rfl⟩
      obtain ⟨Gr, hGr⟩ : ∃ Gr, Isl.stG R G A n r = Gr := ⟨_, rfl⟩
      obtain ⟨Ar, hAr⟩ : ∃ Ar, Isl.stA R G A n r = Ar := ⟨_, rfl⟩
      have HE : Hid (Isl.run R G A n r = m ∧ Isl.stG R G A n r = Gr ∧ Isl.stA R G A n r = Ar) := ⟨hm, hGr, hAr⟩
      have HS : Hid (Arb wr p g a n Gr Ar ∧ Ints wr ob n m ∧ OpenP wr q n (Isl.ask R n m) ∧ Sans (fun j => j = g ∨ j = a) w wr) := by
        have h1 := HM2.out.arb
        have h2 := HM2.out.out
        have h3 := HM2.out.opn
        rw [hGr, hAr] at h1
        rw [hm] at h2 h3
        exact ⟨h1, h2, h3, HM2.out.sans⟩
      clear hm hGr hAr HM2
      go_wp2_with fail
      refine (granted_any (R := R) (m := m) HS.out.1 HS.out.2.2.1).mono ?_
      rintro e u1 ⟨rfl, ho1, b1⟩
      go_wp2_with fail
      refine (accepted_any (HS.out.1.below b1) ho1).mono ?_
      rintro e u2 ⟨v, rfl, hp, b2⟩
      obtain ⟨xs, hxs⟩ : ∃ xs, Isl.prs (Isl.acc R Gr Ar n m) n = xs := ⟨_, rfl⟩
      rw [hxs] at hp
      have HX : Hid (Isl.prs (Isl.acc R Gr Ar n m) n = xs) := hxs
      have b12 := later b1 b2
      have HS2 : Hid (Arb u2 p g a n Gr Ar ∧ Ints u2 ob n m ∧ OpenP u2 q n (Isl.ask R n m) ∧ Sans (fun j => j = g ∨ j = a) w u2) := ⟨HS.out.1.below b12, HS.out.2.1.below b12, HS.out.2.2.1.sans (Sans.of_below (F := fun _ => False) b12) (fun e => e), HS.out.2.2.2.then (Sans.of_below b12)⟩
      have s1 := b1.size
      have s2 := b2.size
      clear b12 b1 b2 ho1 hxs HS
      by_cases hnil : xs = []
      · subst hnil
        obtain ⟨av, cv, rfl⟩ := hp.empty
        have hst := Isl.prs_nil HX.out
        rw [← HE.out.1, ← HE.out.2.1, ← HE.out.2.2] at hst
        have hstk := Isl.run_stuck hst
        have HF : Hid (Ints u2 ob n (Isl.run R G A n K) ∧ Arb u2 p g a n (Isl.runG R G A n) (Isl.runA R G A n) ∧ Sans (fun j => j = g ∨ j = a) w u2) := by
          have h1 := HS2.out.1
          have h2 := HS2.out.2.1
          rw [← HE.out.2.1, ← HE.out.2.2, hstk.1, hstk.2.1] at h1
          rw [← HE.out.1, ← hstk.2.2 K hr] at h2
          exact ⟨h2, h1, HS2.out.2.2.2⟩
        clear hst hstk hp
        go_wp2_with fail
        refine noGoto_ret ?_
        go_ret
        exact ⟨ob, rfl, by omega, HF.out⟩
      · obtain ⟨pb, cp, rfl, hpb, lpb, hP⟩ := hp.open hnil
        have hx16 : xs.length ≤ 16 := by rw [← HX.out]; exact Nat.le_trans (Isl.prs_len _ _) n2
        have hxpos : 1 ≤ xs.length := Nat.one_le_iff_ne_zero.2 (fun e => hnil (List.eq_nil_of_length_eq_zero e))
        have HXL : Hid (∀ x ∈ xs, x.1 < n ∧ x.2 < n) := by
          intro x hx
          rw [← HX.out] at hx
          exact Isl.prs_lt hx
        have HP : Hid (Prs u2 pb xs) := hP
        have hpn : pb ≠ g ∧ pb ≠ a ∧ pb ≠ q ∧ pb ≠ ob := by omega
        have hon : ob ≠ g ∧ ob ≠ a ∧ ob ≠ q := by omega
        obtain ⟨c, hc⟩ : ∃ c, xs.length = c := ⟨_, rfl⟩
        have HC : Hid (xs.length = c) := hc
        rw [hc] at hx16 hxpos ⊢
        clear hp hP hc
        have hc0 : ((c : Int) == 0) = false := by simp; omega
        have hc1 : c ≠ 0 := by omega
        have hgo : ∀ u3 : World, (∃ Gn An, Gn = Isl.stG R G A n (r + 1) ∧ An = Isl.stA R G A n (r + 1) ∧ Arb u3 p g a n Gn An) → Sans (fun j => j = g ∨ j = a) u2 u3 → Inn w u3 p g a n q ob pb (Isl.stG R G A n (r + 1)) (Isl.stA R G A n (r + 1)) (Isl.ask R n m) m xs 0 u2.heap.size := by
          rintro u3 ⟨Gn, An, rfl, rfl, hA⟩ hS
          exact ⟨hA, HS2.out.2.1.sans hS (by omega), (HS2.out.2.2.1.sans hS (by omega)).congr (fun o _ i _ => by rw [List.take_zero, Isl.askx_nil]), HP.out.sans hS (by omega), HS2.out.2.2.2.then hS, hS.size⟩
        have HGo : Hid (∀ u3 : World, (∃ Gn An, Gn = Isl.stG R G A n (r + 1) ∧ An = Isl.stA R G A n (r + 1) ∧ Arb u3 p g a n Gn An) → Sans (fun j => j = g ∨ j = a) u2 u3 → Inn w u3 p g a n q ob pb (Isl.stG R G A n (r + 1)) (Isl.stA R G A n (r + 1)) (Isl.ask R n m) m xs 0 u2.heap.size) := hgo
        clear hgo
        by_cases hr0 : r = 0
        · subst hr0
          go_wp2_with fail
          have hmv := move_any (cap := cp) HS2.out.1 HP.out HXL.out (by have := HC.out; omega) hpn.1 hpn.2.1
          rw [HC.out] at hmv
          refine hmv.mono ?_
          rintro e u3 ⟨⟨v, rfl⟩, hA, hS⟩
          have HS3 : Hid (Inn w u3 p g a n q ob pb (Isl.stG R G A n (0 + 1)) (Isl.stA R G A n (0 + 1)) (Isl.ask R n m) m xs 0 u2.heap.size) := by
            refine HGo.out u3 ⟨_, _, ?_, ?_, hA⟩ hS
            · rw [← HX.out, Isl.mvG_all, ← HE.out.1, ← HE.out.2.1, ← HE.out.2.2]; rfl
            · rw [← HX.out, Isl.mvA_all, ← HE.out.1, ← HE.out.2.1, ← HE.out.2.2]; rfl
          clear hA hS hmv
          go_wp2_with fail
          go_loopw [12, 55] (fun _ v wr' => ∃ t : Nat, t ≤ c ∧ v = .int .i64 t ∧ Inn w wr' p g a n q ob pb (Isl.stG R G A n (0 + 1)) (Isl.stA R G A n (0 + 1)) (Isl.ask R n m) m xs t u2.heap.size) (fun _ v _ => c - (intOf v).toNat)
          case atStart => exact ⟨0, Nat.zero_le _, rfl, HS3.out⟩
          case round =>
            obtain ⟨t, ht, rfl, hI⟩ := hrel
            have HI : Hid (Inn w wr p g a n q ob pb (Isl.stG R G A n (0 + 1)) (Isl.stA R G A n (0 + 1)) (Isl.ask R n m) m xs t u2.heap.size) := hI
            clear hI HS3 HS2
            by_cases htc : t < c
            · obtain ⟨y, hy⟩ : ∃ y, xs[t]? = some y := ⟨_, List.getElem?_eq_getElem (by have := HC.out; omega)⟩
              obtain ⟨c1, c2⟩ := HI.out.2.2.2.1 t y hy
              obtain ⟨l1, l2⟩ := HXL.out y (List.mem_of_getElem? hy)
              have HY : Hid (xs[t]? = some y) := hy
              clear hy
              obtain ⟨x1, x2⟩ := y
              dsimp only at c1 c2 l1 l2
              obtain ⟨o1, f1⟩ := HI.out.2.1 x1 l1
              have lo1 := cell_lt o1
              go_wp2_with fail
              refine (shut_any n2 (HI.out.opened _ (by omega)) l1 l2).mono ?_
              rintro e u4 ⟨⟨v, rfl⟩, hO, hS⟩
              have HI2 : Hid (Inn w u4 p g a n q ob pb (Isl.stG R G A n (0 + 1)) (Isl.stA R G A n (0 + 1)) (Isl.ask R n m) m xs (t + 1) u2.heap.size) := HI.out.step HY.out l1 (by omega) (by omega) (by omega) hO hS
              clear hO hS HI c1 c2 o1 f1
              go_wp2_with fail
              go_roundw
              case rel => first | exact ⟨t + 1, by omega, by go_num, HI2.out⟩ | ((repeat apply Exists.intro); exact ⟨⟨t + 1, by omega, by go_num, HI2.out⟩, rfl⟩)
              case measure => simp [intOf]; omega
            · obtain rfl : t = c := by omega
              have hMid : Mid w wr p g a n q ob R G A (0 + 1) := by
                have e : xs.take t = xs := List.take_of_length_le (by have := HC.out; omega)
                obtain ⟨h1, h2, h3, h4, h5, h6⟩ := HI.out
                rw [e] at h2 h3
                have er : Isl.run R G A n (0 + 1) = Isl.next R Gr Ar n m := by rw [Isl.run_next, HE.out.1, HE.out.2.1, HE.out.2.2]
                have e2 := HX.out
                refine ⟨h1, ?_, ?_, h5⟩
                · rw [er, ← Isl.puts_all, e2]; exact h2
                · rw [er]
                  refine h3.congr (fun o _ i hi => ?_)
                  rw [← Isl.askx_all hi, e2]
              have HMd : Hid (Mid w wr p g a n q ob R G A (0 + 1)) := hMid
              have h6 : w2.heap.size ≤ wr.heap.size := by have := HI.out.2.2.2.2.2; omega
              clear hMid HI
              go_wp2_with fail
              all_goals first
                | exact ⟨⟨0 + 1, by omega, by go_num, HMd.out, h6⟩, by simp [intOf]; omega⟩
                | (go_roundw; (case rel => first | exact ⟨0 + 1, by omega, by go_num, HMd.out, h6⟩ | ((repeat apply Exists.intro); exact ⟨⟨0 + 1, by omega, by go_num, HMd.out, h6⟩, rfl⟩)); (case measure => simp [intOf]; omega))
        · have HS3 : Hid (Inn w u2 p g a n q ob pb (Isl.stG R G A n (r + 1)) (Isl.stA R G A n (r + 1)) (Isl.ask R n m) m xs 0 u2.heap.size) := by
            refine HGo.out u2 ⟨_, _, ?_, ?_, HS2.out.1⟩ (Sans.refl _ _)
            · rw [← HE.out.2.1]; unfold Isl.stG; rw [if_neg hr0, if_neg (by omega)]
            · rw [← HE.out.2.2]; unfold Isl.stA; rw [if_neg hr0, if_neg (by omega)]
          have hr1 : ((r : Int) == 0) = false := by simp; omega
          go_wp2_with fail
          go_loopw [12, 55] (fun _ v wr' => ∃ t : Nat, t ≤ c ∧ v = .int .i64 t ∧ Inn w wr' p g a n q ob pb (Isl.stG R G A n (r + 1)) (Isl.stA R G A n (r + 1)) (Isl.ask R n m) m xs t u2.heap.size) (fun _ v _ => c - (intOf v).toNat)
          case atStart => exact ⟨0, Nat.zero_le _, rfl, HS3.out⟩
          case round =>
            obtain ⟨t, ht, rfl, hI⟩ := hrel
            have HI : Hid (Inn w wr p g a n q ob pb (Isl.stG R G A n (r + 1)) (Isl.stA R G A n (r + 1)) (Isl.ask R n m) m xs t u2.heap.size) := hI
            clear hI HS3 HS2
            by_cases htc : t < c
            · obtain ⟨y, hy⟩ : ∃ y, xs[t]? = some y := ⟨_, List.getElem?_eq_getElem (by have := HC.out; omega)⟩
              obtain ⟨c1, c2⟩ := HI.out.2.2.2.1 t y hy
              obtain ⟨l1, l2⟩ := HXL.out y (List.mem_of_getElem? hy)
              have HY : Hid (xs[t]? = some y) := hy
              clear hy
              obtain ⟨x1, x2⟩ := y
              dsimp only at c1 c2 l1 l2
              obtain ⟨o1, f1⟩ := HI.out.2.1 x1 l1
              have lo1 := cell_lt o1
              go_wp2_with fail
              refine (shut_any n2 (HI.out.opened _ (by omega)) l1 l2).mono ?_
              rintro e u4 ⟨⟨v, rfl⟩, hO, hS⟩
              have HI2 : Hid (Inn w u4 p g a n q ob pb (Isl.stG R G A n (r + 1)) (Isl.stA R G A n (r + 1)) (Isl.ask R n m) m xs (t + 1) u2.heap.size) := HI.out.step HY.out l1 (by omega) (by omega) (by omega) hO hS
              clear hO hS HI c1 c2 o1 f1
              go_wp2_with fail
              go_roundw
              case rel => first | exact ⟨t + 1, by omega, by go_num, HI2.out⟩ | ((repeat apply Exists.intro); exact ⟨⟨t + 1, by omega, by go_num, HI2.out⟩, rfl⟩)
              case measure => simp [intOf]; omega
            · obtain rfl : t = c := by omega
              have hMid : Mid w wr p g a n q ob R G A (r + 1) := by
                have e : xs.take t = xs := List.take_of_length_le (by have := HC.out; omega)
                obtain ⟨h1, h2, h3, h4, h5, h6⟩ := HI.out
                rw [e] at h2 h3
                have er : Isl.run R G A n (r + 1) = Isl.next R Gr Ar n m := by rw [Isl.run_next, HE.out.1, HE.out.2.1, HE.out.2.2]
                have e2 := HX.out
                refine ⟨h1, ?_, ?_, h5⟩
                · rw [er, ← Isl.puts_all, e2]; exact h2
                · rw [er]
                  refine h3.congr (fun o _ i hi => ?_)
                  rw [← Isl.askx_all hi, e2]
              have HMd : Hid (Mid w wr p g a n q ob R G A (r + 1)) := hMid
              have h6 : w2.heap.size ≤ wr.heap.size := by have := HI.out.2.2.2.2.2; omega
              clear hMid HI
              go_wp2_with fail
              all_goals first
                | exact ⟨⟨r + 1, by omega, by go_num, HMd.out, h6⟩, by simp [intOf]; omega⟩
                | (go_roundw; (case rel => first | exact ⟨r + 1, by omega, by go_num, HMd.out, h6⟩ | ((repeat apply Exists.intro); exact ⟨⟨r + 1, by omega, by go_num, HMd.out, h6⟩, rfl⟩)); (case measure => simp [intOf]; omega))
    · obtain rfl : r = K := by omega
      go_wp2_with fail
      refine noGoto_ret ?_
      go_ret
      have h1 := HM2.out.arb
      rw [show Isl.stG R G A n r = Isl.runG R G A n by unfold Isl.stG; rw [if_neg (by omega)], show Isl.stA R G A n r = Isl.runA R G A n by unfold Isl.stA; rw [if_neg (by omega)]] at h1
      exact ⟨ob, rfl, by omega, HM2.out.out, h1, HM2.out.sans⟩
end Go.Proofs.YtniicgbkeifnjaaGreatDoor.M
namespace Go.Proofs.YtniicgbkeifnjaaGreatDoor
open Go.ChangeShapes Go.WideShapes Go.ChangeAt Go.RowKit
set_option linter.unusedVariables false
set_option maxRecDepth 100000
def NRow (w : World) (f n : Nat) (lf : Nat → Int) : Prop := w.heap[f]? = some (.cells (M.icells n lf).toArray 3 (0, 0))
section
variable {w w' : World} {f n : Nat} {lf : Nat → Int}
theorem NRow.lt (h : NRow w f n lf) : f < w.heap.size := by
  rcases Nat.lt_or_ge f w.heap.size with h' | h'
  · exact h'
  · unfold NRow at h; simp [Array.getElem?_eq_none h'] at h
theorem NRow.cell (h : NRow w f n lf) {k : Nat} (hk : k < n) : w.cell? ⟨f, k, none⟩ = some (.int .i64 (lf k)) := by
  unfold World.cell?
  dsimp only
  rw [show w.heap[f]? = _ from h]
  simp [M.icells_at hk]
theorem NRow.frozen (h : NRow w f n lf) (k : Nat) : w.frozen? ⟨f, k, none⟩ = false := by
  unfold World.frozen?
  dsimp only
  rw [show w.heap[f]? = _ from h]
  simp
theorem NRow.ints (h : NRow w f n lf) : M.Ints w f n lf := fun k hk => ⟨h.cell hk, h.frozen k⟩
theorem NRow.sans {F : Nat → Prop} (h : NRow w f n lf) (k : Sans F w w') (hn : ¬ F f) : NRow w' f n lf := (k.block f h.lt hn).trans h
theorem NRow.below (h : NRow w f n lf) (k : Below w.heap.size w w') : NRow w' f n lf := h.sans (F := fun _ => False) (Sans.of_below k) (fun e => e)
theorem NRow.congr {g : Nat → Int} (h : NRow w f n lf) (e : ∀ k, k < n → lf k = g k) : NRow w f n g := by
  have : M.icells n g = M.icells n lf := by
    unfold M.icells
    exact List.map_congr_left (fun k hk => by rw [e k (List.mem_range.1 hk)])
  unfold NRow
  rw [this]
  exact h
theorem icells_set (n k : Nat) (lf : Nat → Int) (v : Int) : (M.icells n lf).set k (.int .i64 v) = M.icells n (Nd.up1 lf k v) := by
  apply List.ext_getElem?
  intro i
  rw [List.getElem?_set]
  unfold M.icells Nd.up1
  simp only [List.length_map, List.length_range, List.getElem?_map]
  by_cases hi : i < n
  · rw [List.getElem?_range hi]
    by_cases e : k = i
    · subst e; simp [hi]
    · have : ¬ i = k := fun e2 => e e2.symm
      simp [e, this]
  · rw [List.getElem?_eq_none (by simpa using hi)]
    by_cases e : k = i
    · subst e; simp [hi]
    · simp [e]
theorem NRow.set (h : NRow w f n lf) (k : Nat) (v : Int) : NRow (w.setCell ⟨f, k, none⟩ (.int .i64 v)) f n (Nd.up1 lf k v) := by
  unfold NRow World.setCell
  dsimp only
  rw [Array.getElem?_modify]
  rw [show w.heap[f]? = _ from h]
  simp [icells_set]
theorem madeCells_row (n : Nat) : madeCells #[.int .i64 0] n = (M.icells n (fun _ => 0)).toArray := by
  apply Array.ext'
  apply List.ext_getElem?
  intro i
  by_cases hi : i < n
  · have : (M.icells n (fun _ => 0))[i]? = some (.int .i64 0) := M.icells_at (f := fun _ => 0) hi
    simp [this, madeCells, hi, Nat.mod_one]
  · rw [List.getElem?_eq_none (by simp [madeCells]; omega), List.getElem?_eq_none (by simp [M.icells_len]; omega)]
theorem NRow.made (w : World) (n : Nat) : NRow (w.alloc (.cells (madeCells #[.int .i64 0] n) 3)) w.heap.size n (fun _ => 0) := by
  unfold NRow
  rw [World.alloc_heap_new, madeCells_row]
end
structure Whl (w : World) (p x f n : Nat) (wt lf : Nat → Int) (fr : Nat) : Prop where
  c0 : ∃ xc, w.cell? ⟨p, 0, none⟩ = some (.slice (some ⟨x, 0, none⟩) n xc)
  c1 : w.cell? ⟨p, 1, none⟩ = some (.slice (some ⟨f, 0, none⟩) n n)
  c2 : w.cell? ⟨p, 2, none⟩ = some (.int .i64 fr)
  f2 : w.frozen? ⟨p, 2, none⟩ = false
  xs : M.Ints w x n wt
  ls : NRow w f n lf
  px : p ≠ x
  pf : p ≠ f
  xf : x ≠ f
  n1 : 1 ≤ n
  n3 : n ≤ 3
  frn : fr < n
  wb : ∀ k, k < n → 1 ≤ wt k ∧ wt k ≤ 5
  lb : ∀ k, k < n → 0 ≤ lf k ∧ lf k ≤ 5
section
variable {w w' : World} {p x f n fr : Nat} {wt lf : Nat → Int}
theorem Whl.lp (h : Whl w p x f n wt lf fr) : p < w.heap.size := cell_lt h.c2
theorem Whl.lx (h : Whl w p x f n wt lf fr) : x < w.heap.size := h.xs.lt h.n1
theorem Whl.lf' (h : Whl w p x f n wt lf fr) : f < w.heap.size := h.ls.lt
theorem Whl.sans {F : Nat → Prop} (h : Whl w p x f n wt lf fr) (k : Sans F w w') (hp : ¬ F p) (hx : ¬ F x) (hf : ¬ F f) : Whl w' p x f n wt lf fr := by
  obtain ⟨xc, c0⟩ := h.c0
  exact ⟨⟨xc, (k.cell (p := ⟨p, 0, none⟩) h.lp hp).trans c0⟩, (k.cell (p := ⟨p, 1, none⟩) h.lp hp).trans h.c1, (k.cell (p := ⟨p, 2, none⟩) h.lp hp).trans h.c2, (k.frozen (p := ⟨p, 2, none⟩) h.lp hp).trans h.f2, h.xs.sans k hx, h.ls.sans k hf, h.px, h.pf, h.xf, h.n1, h.n3, h.frn, h.wb, h.lb⟩
theorem Whl.below (h : Whl w p x f n wt lf fr) (k : Below w.heap.size w w') : Whl w' p x f n wt lf fr := h.sans (F := fun _ => False) (Sans.of_below k) (fun e => e) (fun e => e) (fun e => e)
theorem Whl.from_ (h : Whl w p x f n wt lf fr) (z : Nat) (hz : z < n) : Whl (w.setCell ⟨p, 2, none⟩ (.int .i64 z)) p x f n wt lf z := by
  obtain ⟨xc, c0⟩ := h.c0
  have S : Sans (fun j => j = p) w (w.setCell ⟨p, 2, none⟩ (.int .i64 z)) := Sans.of_set w ⟨p, 2, none⟩ _ rfl
  exact ⟨⟨xc, cell_set c0 (by omega)⟩, cell_set h.c1 (by omega), World.cell?_setCell_same _ _ _ h.c2, by rw [World.frozen?_setCell]; exact h.f2, h.xs.sans S (fun e => h.px e.symm), h.ls.sans S (fun e => h.pf e.symm), h.px, h.pf, h.xf, h.n1, h.n3, hz, h.wb, h.lb⟩
theorem Whl.left (h : Whl w p x f n wt lf fr) (k : Nat) (v : Int) (hv : 0 ≤ v ∧ v ≤ 5) : Whl (w.setCell ⟨f, k, none⟩ (.int .i64 v)) p x f n wt (Nd.up1 lf k v) fr := by
  obtain ⟨xc, c0⟩ := h.c0
  have S : Sans (fun j => j = f) w (w.setCell ⟨f, k, none⟩ (.int .i64 v)) := Sans.of_set w ⟨f, k, none⟩ _ rfl
  refine ⟨⟨xc, (S.cell (p := ⟨p, 0, none⟩) h.lp h.pf).trans c0⟩, (S.cell (p := ⟨p, 1, none⟩) h.lp h.pf).trans h.c1, (S.cell (p := ⟨p, 2, none⟩) h.lp h.pf).trans h.c2, (S.frozen (p := ⟨p, 2, none⟩) h.lp h.pf).trans h.f2, h.xs.sans S h.xf, h.ls.set k v, h.px, h.pf, h.xf, h.n1, h.n3, h.frn, h.wb, fun j hj => ?_⟩
  unfold Nd.up1
  split
  · exact hv
  · exact h.lb j hj
set_option maxHeartbeats 1000000 in
theorem wfill_any (h : Whl w p x f n wt lf fr) :
    Calls Tryz.prog 152 #[.pointer (some ⟨p, 0, none⟩)] w fun e w' => e = .returned (.tuple #[]) ∧ Whl w' p x f n wt wt fr ∧ Sans (fun j => j = f) w w' := by
  obtain ⟨xc, h0⟩ := h.c0
  have h1 := h.c1
  have HH : Hid (Whl w p x f n wt lf fr) := h
  have hsz : (Tryz.prog.info? 3).map (·.size) = some 1 := by kernel_rfl
  have hcp := run_copy_row (P := Tryz.prog) w.drew 27 27 3 3 f 0 n n ⟨x, 0, none⟩ n xc (M.icells n lf).toArray 3 (M.icells n wt) Tryz.underlying27 hsz h.ls (by rw [M.icells_len]; exact (Nat.min_self n).symm) (fun j v hv => by
    have hj : j < n := by
      have := (List.getElem?_eq_some_iff.1 hv).1
      rwa [M.icells_len] at this
    rw [M.icells_at hj] at hv
    rw [add_lit, ← hv, Nat.zero_add]
    exact (h.xs j hj).1) (by rw [M.icells_len]; simp [M.icells_len]) (M.icells_one n wt)
  rw [M.icells_len] at hcp
  have hrow : ((M.icells n lf).toArray.toList.take 0 ++ M.icells n wt ++ (M.icells n lf).toArray.toList.drop (0 + n)).toArray = (M.icells n wt).toArray := by
    rw [List.take_zero, List.nil_append, List.drop_eq_nil_of_le (by simp [M.icells_len]), List.append_nil]
  rw [hrow] at hcp
  have S : Sans (fun j => j = f) w (w.drew.setRow f (M.icells n wt).toArray) := by
    refine (Sans.drew w).then ⟨rfl, rfl, rfl, by simp [World.setRow], fun k hk hn => ?_⟩
    simp [World.setRow, Array.getElem?_modify]
    intro e
    exact absurd e.symm hn
  have R : NRow (w.drew.setRow f (M.icells n wt).toArray) f n wt := by
    unfold NRow World.setRow
    dsimp only
    rw [Array.getElem?_modify]
    rw [show w.drew.heap[f]? = _ from h.ls]
    simp
  obtain ⟨U, hU⟩ : ∃ U, w.drew.setRow f (M.icells n wt).toArray = U := ⟨_, rfl⟩
  rw [hU] at hcp S R
  have HE : Hid (Whl U p x f n wt wt fr ∧ Sans (fun j => j = f) w U) := by
    refine ⟨⟨⟨xc, (S.cell (p := ⟨p, 0, none⟩) h.lp h.pf).trans h0⟩, (S.cell (p := ⟨p, 1, none⟩) h.lp h.pf).trans h.c1, (S.cell (p := ⟨p, 2, none⟩) h.lp h.pf).trans h.c2, (S.frozen (p := ⟨p, 2, none⟩) h.lp h.pf).trans h.f2, h.xs.sans S h.xf, R, h.px, h.pf, h.xf, h.n1, h.n3, h.frn, h.wb, fun k hk => ?_⟩, S⟩
    have := h.wb k hk
    omega
  clear hU h S R hrow hsz
  go_enter Tryz.func152, Tryz.ntmps152
  go_wp2_with fail
  go_region
  refine bodyPost_end (results_none rfl _ _ _) rfl ?_
  exact ⟨rfl, HE.out⟩
end
end Go.Proofs.YtniicgbkeifnjaaGreatDoor
