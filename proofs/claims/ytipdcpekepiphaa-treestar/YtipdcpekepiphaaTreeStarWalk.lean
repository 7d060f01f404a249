/-
  The law TreeStar (package shunterlaw13), walked. Conditions: that package tree comes to what TreeSpec says.
-/
import Derived.Test.YtipdcpekepiphaaTreePathsWalk
namespace Go.Proofs.Ytipdcpekepiphaa
open Go.ChangeShapes Go.WideShapes Go.ChangeAt Go.RowKit
set_option linter.unusedVariables false

namespace Tree
def star (k : Nat) : List Int := List.replicate k 0
def chain (k : Nat) : List Int := (List.range k).map fun (i : Nat) => (i : Int)
def want (v w : Nat) : Nat := if v = w then 1 else if v = 0 ∨ w = 0 then 2 else 3
theorem star_succ (k : Nat) : star (k + 1) = star k ++ [0] := by unfold star; rw [List.replicate_succ']
theorem chain_succ (k : Nat) : chain (k + 1) = chain k ++ [(k : Int)] := by unfold chain; rw [List.range_succ, List.map_append]; rfl
theorem star_len (k : Nat) : (star k).length = k := by simp [star]
theorem chain_len (k : Nat) : (chain k).length = k := by simp [chain]
def q_star (n v w : Nat) : Bool := ok (star n) && ok (chain n) && (path (star n) v w).length == want v w && (decide (want v w < 3) || (path (star n) v w).getD 1 0 == 0) && (path (chain n) v w).length == (v - w) + (w - v) + 1
theorem star_all : ((List.range 6).all fun n => (List.range (n + 1)).all fun v => (List.range (n + 1)).all fun w => q_star n v w) = true := by decide +kernel
theorem star_of {n v w : Nat} (hn : n ≤ 5) (hv : v ≤ n) (hw : w ≤ n) : ok (star n) = true ∧ ok (chain n) = true ∧ (path (star n) v w).length = want v w ∧ (want v w = 3 → (path (star n) v w).getD 1 0 = 0) ∧ (path (chain n) v w).length = (v - w) + (w - v) + 1 := by
  have h := star_all
  rw [List.all_eq_true] at h
  have h1 := h n (List.mem_range.2 (by omega))
  rw [List.all_eq_true] at h1
  have h2 := h1 v (List.mem_range.2 (by omega))
  rw [List.all_eq_true] at h2
  have h3 := h2 w (List.mem_range.2 (by omega))
  unfold q_star at h3
  simp only [Bool.and_eq_true, Bool.or_eq_true, decide_eq_true_eq, beq_iff_eq] at h3
  obtain ⟨⟨⟨⟨e1, e2⟩, e3⟩, e4⟩, e5⟩ := h3
  exact ⟨e1, e2, e3, fun hw3 => e4.resolve_left (by omega), e5⟩
end Tree
theorem owns_grown {w w' : World} {base n size : Nat} {e : TypeId} {v : Value} {xs : List Value} {r : Option Nat} (h : w.ownsRow base e size v n xs) (g : w.grownBy w' r) (hr : ∀ j, v.ownBlock = some j → r ≠ some j) : w'.ownsRow base e size v n xs :=
  h.kept (row := r) g (by
    cases hv : v.ownBlock with
    | none => exact .inl rfl
    | some k => exact .inr (fun e => hr k hv e.symm))
/-- append of one number to one of two rows of the call's own, which lie apart -/
theorem wpList_append_two {w : World} {ops : Array Oper} {rest : List Oper} {o : Oper} {a : Act} {Q : Exit → Act → World → Prop} (hgd : o.guard = none) (s x : Operand)
    (ho : o.op = .call { callee := .builtin .append, args := #[s, x], argTypes := #[23, 23] }) (base : Nat) (w0 : World) (z : Int)
    (v u : Value) (l k : List Int) (hs : a.eval s = v) (hown : w0.ownsRow base 3 1 v l.length (zcells l)) (hu : w0.ownsRow base 3 1 u k.length (zcells k)) (hbase : base ≤ w0.heap.size) (hap : ∀ j, v.ownBlock = some j → u.ownBlock ≠ some j) (hw : w = w0.alloc (.cells #[.int .i64 z] 3))
    (hx : a.eval x = .slice (some ⟨w0.heap.size, 0, none⟩) 1 1) (hm : l.length ≤ 17592186044000) (l3 : List Int) (hl3 : l ++ [z] = l3)
    (h : ∀ v' w', w'.ownsRow base 3 1 v' l3.length (zcells l3) → w'.ownsRow base 3 1 u k.length (zcells k) → (∀ j, v'.ownBlock = some j → u.ownBlock ≠ some j) → Below base w0 w' → wpList Try.prog ops Q rest (a.put o.dst v') w') : wpList Try.prog ops Q (o :: rest) a w := by
  subst hw
  refine wpList_append_v hgd s x 23 3 ho (.int .i64 0) 1 8 Try.underlying23 infoI rfl (by decide) base v l.length (zcells l) hs (owns_below hown (fresh _ _)) (by simp; omega) (some ⟨w0.heap.size, 0, none⟩) 1 1 (zcells [z]) hx rfl (fun e => by cases e) (.inr ⟨_, rfl, fun j y hy => ?_⟩) (zcells_one _) (by unfold maxLen; omega) (by omega) ?_
  · obtain rfl : j = 0 := by
      have := (List.getElem?_eq_some_iff.1 hy).1
      simp [zcells] at this
      exact this
    rw [add_lit, ← hy]
    simp [zcells]
  · intro v' w' hown' hB hg hat
    rw [zcells_append, show l.length + 1 = (l ++ [z]).length by simp, hl3] at hown'
    refine h v' w' hown' (owns_grown (owns_below hu (fresh _ _)) hg (fun j hj e => hap j e hj)) ?_ (((fresh w0 _).mono hbase).trans hB)
    intro j hj e
    rcases hat with e2 | e2
    · rw [e2] at hj; exact hap j hj e
    · rw [e2] at hj
      have := (hu.lt j e).2
      simp only [World.size_alloc, Option.some.injEq] at hj
      omega
set_option maxHeartbeats 1500000 in
set_option maxRecDepth 100000 in
theorem treeStar_any (S : TreeSpec) (w : World) (z0 : Int) (w0 : (Lit.int .u8 z0).wf = true) (z1 : Int) (w1 : (Lit.int .u8 z1).wf = true) (z2 : Int) (w2 : (Lit.int .u8 z2).wf = true) :
    Calls Try.prog 10 #[.int .u8 z0, .int .u8 z1, .int .u8 z2] w fun e w' => e = .returned (.bool true) ∧ Below w.heap.size w w' := by
  have b0 := bounds_u8 w0
  have b1 := bounds_u8 w1
  have b2 := bounds_u8 w2
  obtain ⟨N, rfl⟩ := Int.eq_ofNat_of_zero_le b0.1
  obtain ⟨A, rfl⟩ := Int.eq_ofNat_of_zero_le b1.1
  obtain ⟨B, rfl⟩ := Int.eq_ofNat_of_zero_le b2.1
  have h0 : N < 256 := by omega
  have hA : A < 256 := by omega
  have hB : B < 256 := by omega
  clear w0 w1 w2 b0 b1 b2
  obtain ⟨m, hm⟩ : ∃ m : Nat, 1 + (N : Int) % 5 = m := ⟨1 + N % 5, by omega⟩
  have hm1 : 1 ≤ m ∧ m ≤ 5 := by omega
  obtain ⟨hm1, hm5⟩ := hm1
  obtain ⟨x, hx⟩ : ∃ x : Nat, (A : Int) % ((m : Int) + 1) = x := ⟨A % (m + 1), by rw [Int.natCast_emod]; rfl⟩
  obtain ⟨y, hy⟩ : ∃ y : Nat, (B : Int) % ((m : Int) + 1) = y := ⟨B % (m + 1), by rw [Int.natCast_emod]; rfl⟩
  have hxm : x ≤ m := by have := Int.emod_lt_of_pos (A : Int) (show (0 : Int) < (m : Int) + 1 by omega); omega
  have hym : y ≤ m := by have := Int.emod_lt_of_pos (B : Int) (show (0 : Int) < (m : Int) + 1 by omega); omega
  go_enter Try.func10, Try.ntmps10
  go_wp2_with fail
  try rw [hm]
  try rw [hx, hy]
  clear hm hx hy
  go_loopw [10, 11, 12] (fun st ch i wr => ∃ k : Nat, k ≤ m ∧ i = .int .i64 k ∧ wr.ownsRow w.heap.size 3 1 st (Tree.star k).length (zcells (Tree.star k)) ∧ wr.ownsRow w.heap.size 3 1 ch (Tree.chain k).length (zcells (Tree.chain k)) ∧ (∀ j, st.ownBlock = some j → ch.ownBlock ≠ some j) ∧ Below w.heap.size w wr) (fun _ _ i _ => m - (intOf i).toNat)
  case atStart => exact ⟨0, Nat.zero_le _, rfl, World.ownsRow_nil _ _ _ _, World.ownsRow_nil _ _ _ _, (fun j e => by cases e), Below.refl _ _⟩
  case round =>
    obtain ⟨k, hk, rfl, hs, hc, hap, hBr⟩ := hrel
    have HS : Hid (wr.ownsRow w.heap.size 3 1 u10 (Tree.star k).length (zcells (Tree.star k))) := hs
    have HC : Hid (wr.ownsRow w.heap.size 3 1 u11 (Tree.chain k).length (zcells (Tree.chain k))) := hc
    have HAp : Hid (∀ j, u10.ownBlock = some j → u11.ownBlock ≠ some j) := hap
    have HBr : Hid (Below w.heap.size w wr) := hBr
    have hsz := hBr.size
    clear hs hc hap hBr
    by_cases hkm : k < m
    · have hk5 : (Tree.star k).length ≤ 5 ∧ (Tree.chain k).length ≤ 5 := by rw [Tree.star_len, Tree.chain_len]; omega
      obtain ⟨hk5a, hk5b⟩ := hk5
      go_wp2_with (first | (at_builtin; refine wpList_append_two rfl (.tmp 38) (.tmp 40) rfl w.heap.size w4 (k : Int) u11 v4 (Tree.chain k) (Tree.star (k + 1)) rfl HC4.out HS4.out HSz4.out HAp4.out rfl rfl (by omega) _ (Tree.chain_succ k).symm ?_; intro v5 w5 hs5 hc5 hap5 hB5; have HC5 : Hid (w5.ownsRow w.heap.size 3 1 v5 (Tree.chain (k + 1)).length (zcells (Tree.chain (k + 1)))) := hs5; have HS5 : Hid (w5.ownsRow w.heap.size 3 1 v4 (Tree.star (k + 1)).length (zcells (Tree.star (k + 1)))) := hc5; have HAp5 : Hid (∀ j, v4.ownBlock = some j → v5.ownBlock ≠ some j) := fun j h1 h2 => hap5 j h2 h1; have HB5 : Hid (Below w.heap.size w w5) := HB4.out.trans hB5; clear hs5 hc5 hap5 hB5) | (at_builtin; refine wpList_append_two rfl (.tmp 35) (.tmp 36) rfl w.heap.size wr 0 u10 u11 (Tree.star k) (Tree.chain k) rfl HS.out HC.out hsz HAp.out rfl rfl (by omega) _ (Tree.star_succ k).symm ?_; intro v4 w4 hs4 hc4 hap4 hB4; have HS4 : Hid (w4.ownsRow w.heap.size 3 1 v4 (Tree.star (k + 1)).length (zcells (Tree.star (k + 1)))) := hs4; have HC4 : Hid (w4.ownsRow w.heap.size 3 1 u11 (Tree.chain k).length (zcells (Tree.chain k))) := hc4; have HAp4 : Hid (∀ j, u11.ownBlock = some j → v4.ownBlock ≠ some j) := fun j h1 h2 => hap4 j h2 h1; have HB4 : Hid (Below w.heap.size w w4) := HBr.out.trans hB4; have HSz4 : Hid (w.heap.size ≤ w4.heap.size) := HB4.out.size; clear hs4 hc4 hap4 hB4))
      go_roundw
      case rel => first | exact ⟨k + 1, by omega, by go_num, HS5.out, HC5.out, HAp5.out, HB5.out⟩ | ((repeat apply Exists.intro); exact ⟨⟨k + 1, by omega, by go_num, HS5.out, HC5.out, HAp5.out, HB5.out⟩, rfl⟩)
      case measure => simp [intOf]; omega
    · obtain rfl : m = k := by omega
      obtain ⟨hso, hco, hsl, hs1, hcl⟩ := Tree.star_of hm5 hxm hym
      obtain ⟨sa, sc, hsv, hsz'⟩ := argz_of_owns HS.out (by rw [Tree.star_len]; omega) (Tree.ok_num hso)
      obtain ⟨ca, cc, hcv, hcz'⟩ := argz_of_owns HC.out (by rw [Tree.chain_len]; omega) (Tree.ok_num hco)
      rw [Tree.star_len] at hsv hsz'
      rw [Tree.chain_len] at hcv hcz'
      subst hsv
      subst hcv
      have HZs : Hid (ArgZ wr sa m sc (Tree.star m)) := hsz'
      have HZc : Hid (ArgZ wr ca m cc (Tree.chain m)) := hcz'
      obtain ⟨L1, hL1⟩ : ∃ L, Tree.path (Tree.star m) x y = L := ⟨_, rfl⟩
      obtain ⟨L2, hL2⟩ : ∃ L, Tree.path (Tree.chain m) x y = L := ⟨_, rfl⟩
      rw [hL1] at hsl hs1
      rw [hL2] at hcl
      obtain ⟨n1, hn1⟩ : ∃ n, Tree.want x y = n := ⟨_, rfl⟩
      obtain ⟨n2, hn2⟩ : ∃ n, (x - y) + (y - x) + 1 = n := ⟨_, rfl⟩
      rw [hn1] at hsl hs1
      rw [hn2] at hcl
      have HP1 : Hid (Tree.pathOf (Tree.star m) (x : Int) (y : Int) = L1 ∧ L1.length = n1) := ⟨by rw [Tree.pathOf_ok hso (by rw [Tree.star_len]; exact hxm) (by rw [Tree.star_len]; exact hym)]; exact hL1, hsl⟩
      have HP2 : Hid (Tree.pathOf (Tree.chain m) (x : Int) (y : Int) = L2 ∧ L2.length = n2) := ⟨by rw [Tree.pathOf_ok hco (by rw [Tree.chain_len]; exact hxm) (by rw [Tree.chain_len]; exact hym)]; exact hL2, hcl⟩
      have HW3 : Hid (n1 = 3 → L1.getD 1 0 = 0) := hs1
      have HN1 : Hid (Tree.want x y = n1) := hn1
      have HN2 : Hid ((x - y) + (y - x) + 1 = n2) := hn2
      have hn1b : n1 ≤ 3 := by rw [← hn1]; unfold Tree.want; split <;> (try split) <;> omega
      clear hso hco hsl hs1 hcl hsz' hcz' hL1 hL2 hn1 hn2 HS HC HAp hk hkm
      go_wp2_with fail
      refine (S.path' HZs.out (x : Int) (y : Int) (i64_small (by omega)) (i64_small (by omega)) L1 HP1.out.1 n1 HP1.out.2).mono ?_
      rintro e w3 ⟨pa, pc, rfl, hz3, hB3⟩
      have HZp3 : Hid (Zr w3 pa n1 L1) := hz3.z
      have HZs3 : Hid (ArgZ w3 sa m sc (Tree.star m)) := HZs.out.below hB3
      have HZc3 : Hid (ArgZ w3 ca m cc (Tree.chain m)) := HZc.out.below hB3
      have HB3 : Hid (Below w.heap.size w w3) := later HBr.out hB3
      clear hz3 hB3 HZs HZc
      go_wp2_with fail
      refine (S.path' HZc3.out (x : Int) (y : Int) (i64_small (by omega)) (i64_small (by omega)) L2 HP2.out.1 n2 HP2.out.2).mono ?_
      rintro e w4 ⟨ra, rc, rfl, hz4, hB4⟩
      have HZp4 : Hid (Zr w4 pa n1 L1) := HZp3.out.below hB4
      have HZs4 : Hid (ArgZ w4 sa m sc (Tree.star m)) := HZs3.out.below hB4
      have HB4 : Hid (Below w.heap.size w w4) := later HB3.out hB4
      clear hz4 hB4 HZp3 HZs3 HZc3
      have hmx : ((n2 : Int) == max ((x : Int) - y) ((y : Int) - x) + 1) = true := by
        have := HN2.out
        rw [beq_iff_eq]
        omega
      have wxy : IntKind.i64.wrap ((x : Int) - y) = (x : Int) - y := by simp only [IntKind.wrap_i64]; omega
      have wyx : IntKind.i64.wrap ((y : Int) - x) = (y : Int) - x := by simp only [IntKind.wrap_i64]; omega
      by_cases hxy : x = y
      · have h1 : n1 = 1 := by rw [← HN1.out]; unfold Tree.want; rw [if_pos hxy]
        subst h1
        have hxy' : ((x : Int) == y) = true := by rw [beq_iff_eq]; omega
        by_cases hx0 : x = 0
        · have hx0' : ((x : Int) == 0) = true := by rw [beq_iff_eq]; omega
          clear hx0 hxy
          go_wp2_with (first | (go_at_call 16; refine (tsame_any HZ6.out HZ7.out (by omega)).mono ?_; rintro e w7 ⟨rfl, hB7⟩; have HB7 : Hid (Below w.heap.size w w7) := later HB6.out hB7; clear hB7) | (go_at_call 17; refine (rpath_any HZ5.out.z (by omega) (x : Int) (y : Int)).mono ?_; rintro e w6 ⟨x6, rfl, ho6, hB6⟩; rw [HP1.out.1] at ho6; obtain ⟨r6, c6, hv6, hz6, _⟩ := zr_of_owns ho6; rw [HP1.out.2] at hv6 hz6; subst hv6; have HZ7 : Hid (Zr w6 r6 _ L1) := hz6; have HZ6 : Hid (Zr w6 pa _ L1) := HZ4.out.below hB6; have HB6 : Hid (Below w.heap.size w w6) := later HB5.out hB6; clear ho6 hz6 hB6) | (go_at_call 13; refine (tknown_any S _).mono ?_; rintro e w5 ⟨rfl, hB5⟩; have HZ5 : Hid (ArgZ w5 sa m sc (Tree.star m)) := HZs4.out.below hB5; have HZ4 : Hid (Zr w5 pa _ L1) := HZp4.out.below hB5; have HB5 : Hid (Below w.heap.size w w5) := later HB4.out hB5; clear hB5))
          all_goals first | (go_ret; exact ⟨rfl, HB7.out⟩) | (exfalso; have := HN2.out; omega)
        · have hx0' : ((x : Int) == 0) = false := by rw [beq_eq_false_iff_ne]; omega
          have hy0' : ((y : Int) == 0) = false := by rw [beq_eq_false_iff_ne]; omega
          clear hx0 hxy
          go_wp2_with (first | (go_at_call 16; refine (tsame_any HZ6.out HZ7.out (by omega)).mono ?_; rintro e w7 ⟨rfl, hB7⟩; have HB7 : Hid (Below w.heap.size w w7) := later HB6.out hB7; clear hB7) | (go_at_call 17; refine (rpath_any HZ5.out.z (by omega) (x : Int) (y : Int)).mono ?_; rintro e w6 ⟨x6, rfl, ho6, hB6⟩; rw [HP1.out.1] at ho6; obtain ⟨r6, c6, hv6, hz6, _⟩ := zr_of_owns ho6; rw [HP1.out.2] at hv6 hz6; subst hv6; have HZ7 : Hid (Zr w6 r6 _ L1) := hz6; have HZ6 : Hid (Zr w6 pa _ L1) := HZ4.out.below hB6; have HB6 : Hid (Below w.heap.size w w6) := later HB5.out hB6; clear ho6 hz6 hB6) | (go_at_call 13; refine (tknown_any S _).mono ?_; rintro e w5 ⟨rfl, hB5⟩; have HZ5 : Hid (ArgZ w5 sa m sc (Tree.star m)) := HZs4.out.below hB5; have HZ4 : Hid (Zr w5 pa _ L1) := HZp4.out.below hB5; have HB5 : Hid (Below w.heap.size w w5) := later HB4.out hB5; clear hB5))
          all_goals first | (go_ret; exact ⟨rfl, HB7.out⟩) | (exfalso; have := HN2.out; omega)
      · have hxy' : ((x : Int) == y) = false := by rw [beq_eq_false_iff_ne]; omega
        by_cases hx0 : x = 0
        · have hx0' : ((x : Int) == 0) = true := by rw [beq_iff_eq]; omega
          have h1 : n1 = 2 := by rw [← HN1.out]; unfold Tree.want; rw [if_neg hxy, if_pos (.inl hx0)]
          subst h1
          clear hx0 hxy
          go_wp2_with (first | (go_at_call 16; refine (tsame_any HZ6.out HZ7.out (by omega)).mono ?_; rintro e w7 ⟨rfl, hB7⟩; have HB7 : Hid (Below w.heap.size w w7) := later HB6.out hB7; clear hB7) | (go_at_call 17; refine (rpath_any HZ5.out.z (by omega) (x : Int) (y : Int)).mono ?_; rintro e w6 ⟨x6, rfl, ho6, hB6⟩; rw [HP1.out.1] at ho6; obtain ⟨r6, c6, hv6, hz6, _⟩ := zr_of_owns ho6; rw [HP1.out.2] at hv6 hz6; subst hv6; have HZ7 : Hid (Zr w6 r6 _ L1) := hz6; have HZ6 : Hid (Zr w6 pa _ L1) := HZ4.out.below hB6; have HB6 : Hid (Below w.heap.size w w6) := later HB5.out hB6; clear ho6 hz6 hB6) | (go_at_call 13; refine (tknown_any S _).mono ?_; rintro e w5 ⟨rfl, hB5⟩; have HZ5 : Hid (ArgZ w5 sa m sc (Tree.star m)) := HZs4.out.below hB5; have HZ4 : Hid (Zr w5 pa _ L1) := HZp4.out.below hB5; have HB5 : Hid (Below w.heap.size w w5) := later HB4.out hB5; clear hB5))
          all_goals first | (go_ret; exact ⟨rfl, HB7.out⟩) | (exfalso; have := HN2.out; omega)
        · have hx0' : ((x : Int) == 0) = false := by rw [beq_eq_false_iff_ne]; omega
          by_cases hy0 : y = 0
          · have hy0' : ((y : Int) == 0) = true := by rw [beq_iff_eq]; omega
            have h1 : n1 = 2 := by rw [← HN1.out]; unfold Tree.want; rw [if_neg hxy, if_pos (.inr hy0)]
            subst h1
            clear hx0 hxy hy0
            go_wp2_with (first | (go_at_call 16; refine (tsame_any HZ6.out HZ7.out (by omega)).mono ?_; rintro e w7 ⟨rfl, hB7⟩; have HB7 : Hid (Below w.heap.size w w7) := later HB6.out hB7; clear hB7) | (go_at_call 17; refine (rpath_any HZ5.out.z (by omega) (x : Int) (y : Int)).mono ?_; rintro e w6 ⟨x6, rfl, ho6, hB6⟩; rw [HP1.out.1] at ho6; obtain ⟨r6, c6, hv6, hz6, _⟩ := zr_of_owns ho6; rw [HP1.out.2] at hv6 hz6; subst hv6; have HZ7 : Hid (Zr w6 r6 _ L1) := hz6; have HZ6 : Hid (Zr w6 pa _ L1) := HZ4.out.below hB6; have HB6 : Hid (Below w.heap.size w w6) := later HB5.out hB6; clear ho6 hz6 hB6) | (go_at_call 13; refine (tknown_any S _).mono ?_; rintro e w5 ⟨rfl, hB5⟩; have HZ5 : Hid (ArgZ w5 sa m sc (Tree.star m)) := HZs4.out.below hB5; have HZ4 : Hid (Zr w5 pa _ L1) := HZp4.out.below hB5; have HB5 : Hid (Below w.heap.size w w5) := later HB4.out hB5; clear hB5))
            all_goals first | (go_ret; exact ⟨rfl, HB7.out⟩) | (exfalso; have := HN2.out; omega)
          · have hy0' : ((y : Int) == 0) = false := by rw [beq_eq_false_iff_ne]; omega
            have h1 : n1 = 3 := by rw [← HN1.out]; unfold Tree.want; rw [if_neg hxy, if_neg (by omega)]
            subst h1
            obtain ⟨b1, o1, hpa, hc1⟩ := HZp4.out.at (k := 1) (by omega)
            subst hpa
            rw [HW3.out rfl] at hc1
            have HC1 : Hid (w4.cell? ⟨b1, o1 + 1, none⟩ = some (.int .i64 0)) := hc1
            clear hc1
            clear hx0 hxy hy0
            go_wp2_with (first | (go_at_call 16; refine (tsame_any HZ6.out HZ7.out (by omega)).mono ?_; rintro e w7 ⟨rfl, hB7⟩; have HB7 : Hid (Below w.heap.size w w7) := later HB6.out hB7; clear hB7) | (go_at_call 17; refine (rpath_any HZ5.out.z (by omega) (x : Int) (y : Int)).mono ?_; rintro e w6 ⟨x6, rfl, ho6, hB6⟩; rw [HP1.out.1] at ho6; obtain ⟨r6, c6, hv6, hz6, _⟩ := zr_of_owns ho6; rw [HP1.out.2] at hv6 hz6; subst hv6; have HZ7 : Hid (Zr w6 r6 3 L1) := hz6; have HZ6 : Hid (Zr w6 (some ⟨b1, o1, none⟩) 3 L1) := HZ4.out.below hB6; have HB6 : Hid (Below w.heap.size w w6) := later HB5.out hB6; clear ho6 hz6 hB6) | (go_at_call 13; refine (tknown_any S _).mono ?_; rintro e w5 ⟨rfl, hB5⟩; have HZ5 : Hid (ArgZ w5 sa m sc (Tree.star m)) := HZs4.out.below hB5; have HZ4 : Hid (Zr w5 (some ⟨b1, o1, none⟩) 3 L1) := HZp4.out.below hB5; have HB5 : Hid (Below w.heap.size w w5) := later HB4.out hB5; have hcl : w5.cell? ⟨b1, o1 + 1, none⟩ = some (.int .i64 0) := (hB5.cell (p := ⟨b1, o1 + 1, none⟩) (cell_lt HC1.out)).trans HC1.out; clear hB5))
            all_goals first | (go_ret; exact ⟨rfl, HB7.out⟩) | (exfalso; have := HN2.out; omega)
end Go.Proofs.Ytipdcpekepiphaa
