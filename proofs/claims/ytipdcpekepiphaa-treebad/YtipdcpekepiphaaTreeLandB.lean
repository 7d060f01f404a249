/-
  Package tree as it landed: Path, of any parents and any two numbers. Conditions: none but that the slice leads to numbers.
-/
import Derived.Test.YtipdcpekepiphaaTreeLandA
import Derived.Test.YtipdcpekepiphaaTreeMeet
import Derived.Test.YtipdcpekepiphaaLays
import Derived.Sort.OwnSortedInts
import Derived.Lib.OwnBridge
namespace Go.Proofs.Ytipdcpekepiphaa
open Go.ChangeShapes Go.WideShapes Go.ChangeAt Go.RowKit Go.Shelf Go.Sort
set_option linter.unusedVariables false
attribute [local go_sem] Oper.semAt_some

theorem tnoGoto_ret {Q : Exit → Act → World → Prop} {a : Act} {w : World} (h : Q .ret a w) : Exit.noGoto Q .ret a w := h
theorem twpIn_scope_wide {n : Nat} {P : Program} {c : Code} {Q : Exit → Act → World → Prop} {a : Act} {w : World} (h : c.wpIn Fence.wide n P (Exit.noGoto Q) a w) : (Code.scope c).wpIn Fence.wide n P Q a w :=
  wpIn_wide.2 (wp_scope_straight (wpIn_wide.1 h))

/-- slices.Reverse at a row of numbers of the call's own -/
theorem rev_own {w : World} {base : Nat} {v : Value} {l : List Int} (h : w.ownsRow base 3 1 v l.length (zcells l)) (hl : l.length ≤ 17592186044416) :
    Calls Try.prog 30 #[v] w fun e w' => e = .returned (.tuple #[]) ∧ w'.ownsRow base 3 1 v l.length (zcells l.reverse) ∧ w.grownBy w' v.ownBlock := by
  rcases h.2 with ⟨hv, h0⟩ | ⟨g, cap, cur, hv, hb, hg, hnc, hcm, hcs, htake⟩
  · subst hv
    have : l = [] := List.length_eq_zero_iff.1 h0
    subst this
    refine (Any.slices_Reverse_int_empty Try.lays112 none 0 w).mono ?_
    rintro e w' ⟨rfl, rfl⟩
    exact ⟨rfl, h, rfl, rfl, rfl, Nat.le_refl _, fun _ _ _ => rfl⟩
  · subst hv
    have hH := holds_of_blockI (ss := l) hg (by rw [Nat.mul_one] at htake; exact htake)
    refine (Any.slices_Reverse_int Try.lays112 g 0 cap l w hH (by omega)).mono ?_
    rintro e w' ⟨rfl, q, rfl⟩
    have hc := Lib.ownsRow_putRow (q := q) (k := l.length) (ys := l.reverse) h (by simp) (Nat.le_refl _)
    rw [List.take_of_length_le (by simp)] at hc
    refine ⟨rfl, hc, rfl, rfl, rfl, by simp [putRow, mapBlock, Sort.ahead], fun k hk hne => ?_⟩
    have : g ≠ k := fun e => hne (by rw [e]; rfl)
    simp [putRow, mapBlock, Sort.ahead, Array.getElem?_modify, this]

/-- a row in a box has grown -/
theorem box_grow {W w1 : World} {N B : Nat} {t e : TypeId} {size : Nat} {v v' : Value} {k m : Nat} {xs ys : List Value} {tmp : Obj}
    (hv : Boxed W B t v) (hte : t ≠ e) (hrow : W.ownsRow N e size v k xs) (hown' : w1.ownsRow N e size v' m ys) (hgrow : (W.alloc tmp).grownBy w1 v.ownBlock) :
    Boxed w1 B t v ∧ Boxed (w1.setCell ⟨B, 0, none⟩ v') B t v' ∧ (w1.setCell ⟨B, 0, none⟩ v').ownsRow N e size v' m ys ∧ KeepsOthers W (w1.setCell ⟨B, 0, none⟩ v') ∧ Sans (fun j => j = B ∨ N ≤ j) W w1 ∧ Sans (fun j => j = B ∨ N ≤ j) W (w1.setCell ⟨B, 0, none⟩ v') := by
  have hv1 : Boxed w1 B t v := (hv.alloc tmp).kept hgrow (hv.not_row hte hrow)
  have hS : Sans (fun j => j = B ∨ N ≤ j) W w1 := (Sans.alloc W tmp).then (Sans.of_grown hgrow (fun j ej => by
    rcases hrow.2 with ⟨rfl, _⟩ | ⟨g, cap, cur, rfl, hb, _, _⟩
    · simp [Value.ownBlock] at ej
    · obtain rfl : g = j := by simpa [Value.ownBlock] using ej
      exact .inr hb))
  refine ⟨hv1, hv1.set v', hown'.kept (grownBy_setCell' w1 B v') (.inr (hv1.not_row hte hown').symm), ?_, hS, hS.then (Sans.of_set _ _ _ (.inl rfl))⟩
  refine ((KeepsOthers.alloc W tmp).trans (KeepsOthers.of_grownBy hgrow fun j o ej hj => ?_)).trans (KeepsOthers.setCell _ _ _)
  rcases (hrow.alloc tmp).2 with ⟨rfl, _⟩ | ⟨g, cap, cur, rfl, _, hgb, _⟩
  · simp [Value.ownBlock] at ej
  · obtain rfl : g = j := by simpa [Value.ownBlock] using ej
    rw [hgb] at hj; cases hj; rfl
theorem ownFrom_sans {β : Type} {F : Nat → Prop} {B : Nat} {w₀ : World} (hB : w₀.heap.size ≤ B) : OwnFrom B (fun (_ : β) W => Sans F w₀ W) :=
  fun _ _ _ _ hs hg hr => ⟨hg.os.trans hs.os, hg.tape.trans hs.tape, hg.output.trans hs.output, Nat.le_trans hs.size hg.size, fun k hk hn => (hg.block k (Nat.lt_of_lt_of_le hk hs.size) (fun e => by have := (hr k e.symm).1; omega)).trans (hs.block k hk hn)⟩
theorem sansK_b {F : Nat → Prop} {w : World} (hF : ∀ l, w.heap.size ≤ l → F l) (W : World) (l : Nat) (o o' : Obj) (hl : w.heap.size ≤ l) (h : W.heap[l]? = some o) (_ : o.isCells = false) (_ : o.isWalk = false) : Sans F W (W.putObj l o') :=
  Sans.of_grown (grownBy_putObj' W l o') (fun k e => by cases e; exact hF _ hl)
/-- what lies in Path's boxes: the way up so far, and the way back so far, in rows apart -/
def PX (Bu Bb N0 N1 : Nat) (up back : List Int) (W : World) : Prop :=
  (∃ v, Boxed W Bu 23 v ∧ W.ownsRow N0 3 1 v up.length (zcells up) ∧ (∀ j, v.ownBlock = some j → j < N1)) ∧ (∃ v, Boxed W Bb 23 v ∧ W.ownsRow N1 3 1 v back.length (zcells back) ∧ True)
theorem px_own {β : Type} (Bu Bb N0 N1 : Nat) (f g : β → List Int) : _root_.Go.Own (fun s W => PX Bu Bb N0 N1 (f s) (g s) W) := fun s X Y row hs hg hr =>
  ⟨holdsRow_own N0 Bu 23 3 1 (fun s => (f s).length) (fun s => zcells (f s)) (fun _ v => ∀ j, v.ownBlock = some j → j < N1) s X Y row hs.1 hg hr, holdsRow_own N1 Bb 23 3 1 (fun s => (g s).length) (fun s => zcells (g s)) (fun _ _ => True) s X Y row hs.2 hg hr⟩

theorem zr_keep {w : World} {a : Option Addr} {n : Nat} {ps : List Int} (h : Zr w a n ps) {F : Nat → Prop} (hF : ∀ j, j < w.heap.size → ¬ F j) {W W' : World} (k : Zr W a n ps) (s : Sans F W W') : Zr W' a n ps := by
  rcases h.2.2 with h0 | ⟨b, off, ha, hlt, _⟩
  · exact ⟨k.1, k.2.1, .inl h0⟩
  · exact k.sans s (fun ad e => by rw [ha] at e; cases e; exact hF _ hlt)
theorem boxed_at {W : World} {t : TypeId} {v : Value} {B : Nat} (hB : W.heap.size = B) : Boxed (W.alloc (.cells #[v] t)) B t v := hB ▸ Boxed.new W t v
theorem boxed_sans {F : Nat → Prop} {W W' : World} {B : Nat} {t : TypeId} {v : Value} (h : Boxed W B t v) (s : Sans F W W') (hn : ¬ F B) : Boxed W' B t v := (s.block B h.lt hn).trans h
theorem owns_sans1 {F : Nat → Prop} {w w' : World} {base n size : Nat} {e : TypeId} {v : Value} {xs : List Value} (h : w.ownsRow base e size v n xs) (s : Sans F w w') (hn : ∀ j, v.ownBlock = some j → ¬ F j) : w'.ownsRow base e size v n xs := by
  refine ⟨h.1, ?_⟩
  rcases h.2 with h0 | ⟨g, cap, cur, rfl, hb, hg, r⟩
  · exact .inl h0
  · exact .inr ⟨g, cap, cur, rfl, hb, (s.block g (Array.getElem?_eq_some_iff.1 hg).1 (hn g rfl)).trans hg, r⟩
theorem boxEx_own {β : Type} (B : Nat) (t : TypeId) : _root_.Go.Own (fun (_ : β) W => ∃ v, Boxed W B t v) := fun s X Y row ⟨v, hv⟩ hg hr => ⟨v, boxed_own B t (fun _ : Unit => v) () X Y row hv hg hr⟩
/-- append of numbers, told what has grown -/
theorem wpList_append_zg {w : World} {ops : Array Oper} {rest : List Oper} {o : Oper} {a : Act} {Q : Exit → Act → World → Prop} (hgd : o.guard = none) (s x : Operand)
    (ho : o.op = .call { callee := .builtin .append, args := #[s, x], argTypes := #[23, 23] }) (base : Nat)
    (v : Value) (l : List Int) (hs : a.eval s = v) (hown : w.ownsRow base 3 1 v l.length (zcells l)) (hbase : base ≤ w.heap.size)
    (a2 : Option Addr) (m c : Nat) (new : List Int) (hx : a.eval x = .slice a2 m c) (h2 : Zr w a2 m new) (hn2 : a2 = none → m = 0 ∧ c = 0) (hm : l.length + m ≤ 17592186044416) (l3 : List Int) (hl3 : l ++ new = l3)
    (h : ∀ v' w', w'.ownsRow base 3 1 v' l3.length (zcells l3) → w.grownBy w' v.ownBlock → wpList Try.prog ops Q rest (a.put o.dst v') w') : wpList Try.prog ops Q (o :: rest) a w := by
  have hl2 := h2.1
  refine wpList_append_v hgd s x 23 3 ho (.int .i64 0) 1 8 Try.underlying23 infoI rfl (by decide) base v l.length (zcells l) hs hown hbase a2 m c (zcells new) hx (by rw [zcells_len]; omega) hn2 ?_ (zcells_one new) (by unfold maxLen; omega) (by omega) ?_
  · rcases h2.2.2 with h0 | ⟨b, off, e, hlt, hc⟩
    · exact .inl h0
    · refine .inr ⟨_, e, fun j u hu => ?_⟩
      have hj := (List.getElem?_eq_some_iff.1 hu).1
      rw [zcells_len] at hj
      rw [zcells_at hj] at hu
      cases hu
      rw [add_lit]
      exact hc j (by omega)
  · intro v' w' hown' _ hg _
    refine h v' w' ?_ hg
    rw [← hl3, List.length_append, hl2, ← zcells_append]
    exact hown'

set_option maxHeartbeats 1000000 in
set_option maxRecDepth 100000 in
theorem path_no {w : World} {a : Option Addr} {n c : Nat} {ps : List Int} (h : ArgZ w a n c ps) (v u : Int) (hb : (Tree.ok ps && Tree.isNode ps v && Tree.isNode ps u) = false) :
    Calls Try.prog 14 #[.slice a n c, .int .i64 v, .int .i64 u] w fun e w' => e = .returned (.slice none 0 0) ∧ Below w.heap.size w w' := by
  have HZ : Hid (Zr w a n ps) := h.z
  have hn := h.big
  have HLn : Hid (ps.length = n) := h.z.1
  clear h
  obtain ⟨t1, ht1⟩ : ∃ t, Tree.ok ps = t := ⟨_, rfl⟩
  obtain ⟨t2, ht2⟩ : ∃ t, Tree.isNode ps v = t := ⟨_, rfl⟩
  obtain ⟨t3, ht3⟩ : ∃ t, Tree.isNode ps u = t := ⟨_, rfl⟩
  rw [ht1, ht2, ht3] at hb
  have H1 : Hid (Tree.ok ps = t1) := ht1
  have H2 : Hid (Tree.isNode ps v = t2) := ht2
  have H3 : Hid (Tree.isNode ps u = t3) := ht3
  clear ht1 ht2 ht3
  have hB0 : Below w.heap.size w ((w.alloc (.cells #[.slice a n c] 23)).alloc (.cells #[.int .i64 u] 3)) := ((Below.refl _ w).alloc (Nat.le_refl _) _).alloc (by simp) _
  have HB : Hid (Below w.heap.size w ((w.alloc (.cells #[.slice a n c] 23)).alloc (.cells #[.int .i64 u] 3))) := hB0
  have HZ2 : Hid (Zr ((w.alloc (.cells #[.slice a n c] 23)).alloc (.cells #[.int .i64 u] 3)) a n ps) := HZ.out.below hB0
  clear hB0
  go_enter Try.func14, Try.ntmps14
  go_wp2_with fail
  refine wp_scope_straight ?_
  cases t1 with
  | false =>
    go_wp2_with (go_at_call 23; refine (isTree_any HZ2.out hn).mono ?_; rintro e w1 ⟨rfl, hq⟩; obtain rfl := hq.symm; clear hq; rw [H1.out])
    refine tnoGoto_ret ?_
    go_ret
    exact ⟨rfl, HB.out⟩
  | true =>
    cases t2 with
    | false =>
      go_wp2_with (first | (go_at_call 23; refine (isTree_any HZ2.out hn).mono ?_; rintro e w1 ⟨rfl, hq⟩; obtain rfl := hq.symm; clear hq; rw [H1.out]) | (go_at_call_of 28 (Value.int IntKind.i64 v); refine (isNode_any _ _ _ _ hn ps HLn.out v).mono ?_; rintro e w1 ⟨rfl, hq⟩; obtain rfl := hq.symm; clear hq; rw [H2.out]))
      refine tnoGoto_ret ?_
      go_ret
      exact ⟨rfl, HB.out⟩
    | true =>
      obtain rfl : t3 = false := by simpa using hb
      go_wp2_with (first | (go_at_call 23; refine (isTree_any HZ2.out hn).mono ?_; rintro e w1 ⟨rfl, hq⟩; obtain rfl := hq.symm; clear hq; rw [H1.out]) | (go_at_call_of 28 (Value.int IntKind.i64 v); refine (isNode_any _ _ _ _ hn ps HLn.out v).mono ?_; rintro e w1 ⟨rfl, hq⟩; obtain rfl := hq.symm; clear hq; rw [H2.out]; clear H2) | (go_at_call_of 28 (Value.int IntKind.i64 u); refine (isNode_any _ _ _ _ hn ps HLn.out u).mono ?_; rintro e w1 ⟨rfl, hq⟩; obtain rfl := hq.symm; clear hq; rw [H3.out]))
      refine tnoGoto_ret ?_
      go_ret
      exact ⟨rfl, HB.out⟩
end Go.Proofs.Ytipdcpekepiphaa
