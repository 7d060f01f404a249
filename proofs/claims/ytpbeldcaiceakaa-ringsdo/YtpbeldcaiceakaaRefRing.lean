/-
  The document's own rings (package shunterref08): as plain lists, and New, first, Head, All, Len, Same on the call's own. Conditions: none but that the rings are such.
-/
import Derived.Test.YtpbeldcaiceakaaRingBox
import Derived.Test.YtpbeldcaiceakaaSince2
namespace Go.Proofs.Ytpbeldcaiceakaa
open Go.ChangeShapes Go.WideShapes Go.ChangeAt Go.RowKit
set_option linter.unusedVariables false

/-- a packet with its queue -/
abbrev Ent := Pl × Pk
def isAt (q : Pl) (e : Ent) : Bool := decide (e.1 = q)
/-- a queue's packets -/
def qof (ls : List Ent) (q : Pl) : List Pk := (ls.filter (isAt q)).map Prod.snd
theorem qof_nil (q : Pl) : qof [] q = [] := rfl
theorem qof_cons_at (ls : List Ent) (q : Pl) (x : Pk) : qof ((q, x) :: ls) q = x :: qof ls q := by simp [qof, isAt]
theorem qof_cons_not (ls : List Ent) {q r : Pl} (x : Pk) (h : r ≠ q) : qof ((r, x) :: ls) q = qof ls q := by simp [qof, isAt, h]
theorem qof_snoc_at (ls : List Ent) (q : Pl) (x : Pk) : qof (ls ++ [(q, x)]) q = qof ls q ++ [x] := by simp [qof, isAt]
theorem qof_snoc_not (ls : List Ent) {q r : Pl} (x : Pk) (h : r ≠ q) : qof (ls ++ [(r, x)]) q = qof ls q := by simp [qof, isAt, h]
theorem qof_push (ls : List Ent) (q : Pl) (x : Pk) : qof (ls ++ [(q, x)]) = upd (qof ls) q (qof ls q ++ [x]) := by
  funext r
  by_cases e : r = q
  · subst e; rw [upd_same, qof_snoc_at]
  · rw [upd_other _ _ e, qof_snoc_not _ _ (fun e2 => e e2.symm)]
/-- the place of a queue's first one -/
def fidx (ls : List Ent) (q : Pl) : Option Nat := ls.findIdx? (isAt q)
theorem fidx_none {ls : List Ent} {q : Pl} (h : fidx ls q = none) : qof ls q = [] := by
  unfold fidx at h
  rw [List.findIdx?_eq_none_iff] at h
  unfold qof
  rw [List.filter_eq_nil_iff.2 (fun e he => by rw [h e he]; simp)]
  rfl
theorem fidx_some : ∀ {ls : List Ent} {q : Pl} {j : Nat}, fidx ls q = some j → ∃ x, ls[j]? = some (q, x) ∧ qof ls q = x :: (qof ls q).tail ∧ qof (ls.eraseIdx j) = upd (qof ls) q (qof ls q).tail
  | [], q, j, h => by simp [fidx] at h
  | (r, y) :: ls, q, j, h => by
    unfold fidx at h
    rw [List.findIdx?_cons] at h
    by_cases e : r = q
    · subst e
      simp [isAt] at h
      subst h
      refine ⟨y, rfl, by rw [qof_cons_at]; rfl, ?_⟩
      funext s
      by_cases e : s = r
      · subst e; rw [upd_same, qof_cons_at]; rfl
      · rw [upd_other _ _ e, qof_cons_not _ _ (fun e2 => e e2.symm)]; rfl
    · have hf : isAt q (r, y) = false := by simp [isAt, e]
      rw [hf] at h
      simp only [Bool.false_eq_true, if_false] at h
      cases hi : List.findIdx? (isAt q) ls with
      | none => rw [hi] at h; cases h
      | some i =>
        rw [hi] at h
        simp at h
        subst h
        obtain ⟨x, h1, h2, h3⟩ := fidx_some (ls := ls) (q := q) (j := i) hi
        refine ⟨x, by simpa using h1, by rw [qof_cons_not _ _ e]; exact h2, ?_⟩
        rw [List.eraseIdx_cons_succ]
        funext s
        by_cases es : s = q
        · subst es
          rw [upd_same, qof_cons_not _ _ e, qof_cons_not _ _ e, h3, upd_same]
        · rw [upd_other _ _ es]
          by_cases er : r = s
          · subst er
            rw [qof_cons_at, qof_cons_at, h3, upd_other _ _ es]
          · rw [qof_cons_not _ _ er, qof_cons_not _ _ er, h3, upd_other _ _ es]
theorem fidx_lt {ls : List Ent} {q : Pl} {j : Nat} (h : fidx ls q = some j) : j < ls.length := by
  obtain ⟨x, h1, _⟩ := fidx_some h
  exact (List.getElem?_eq_some_iff.1 h1).1
/-- entries, as cells one behind the other -/
def ecells (ls : List Ent) : List Value := ls.flatMap fun e => [.int .i64 e.1.1, .int .i64 e.1.2.1, .int .i64 e.1.2.2, .int .i64 e.2.s, .int .i64 e.2.d, .int .i64 e.2.l, .int .u32 e.2.b]
theorem ecells_append (ls ms : List Ent) : ecells (ls ++ ms) = ecells ls ++ ecells ms := by simp [ecells]
theorem ecells_cons (e : Ent) (ls : List Ent) : ecells (e :: ls) = [.int .i64 e.1.1, .int .i64 e.1.2.1, .int .i64 e.1.2.2, .int .i64 e.2.s, .int .i64 e.2.d, .int .i64 e.2.l, .int .u32 e.2.b] ++ ecells ls := by simp [ecells]
theorem ecells_length (ls : List Ent) : (ecells ls).length = ls.length * 7 := by
  induction ls with
  | nil => rfl
  | cons x r ih =>
    rw [ecells_cons, List.length_append, ih]
    simp
    omega
theorem ecells_one (ls : List Ent) : ∀ u ∈ ecells ls, u.oneCell' = true := by
  intro u hu
  obtain ⟨e, _, he⟩ := List.mem_flatMap.1 hu
  simp only [List.mem_cons, List.not_mem_nil, or_false] at he
  rcases he with rfl | rfl | rfl | rfl | rfl | rfl | rfl <;> rfl
theorem ecells_at : ∀ {ls : List Ent} {j : Nat} {e : Ent} (h : ls[j]? = some e) (i : Nat), i < 7 → (ecells ls)[j * 7 + i]? = [Value.int .i64 e.1.1, .int .i64 e.1.2.1, .int .i64 e.1.2.2, .int .i64 e.2.s, .int .i64 e.2.d, .int .i64 e.2.l, .int .u32 e.2.b][i]?
  | [], j, e, h, i, hi => by simp at h
  | f :: ls, 0, e, h, i, hi => by
    simp at h
    subst h
    rw [ecells_cons, List.getElem?_append_left (by simp; omega), Nat.zero_mul, Nat.zero_add]
  | f :: ls, j + 1, e, h, i, hi => by
    rw [ecells_cons, List.getElem?_append_right (by simp; omega)]
    have := ecells_at (ls := ls) (j := j) (e := e) (by simpa using h) i hi
    simp only [List.length_cons, List.length_nil]
    rw [show (j + 1) * 7 + i - (0 + 1 + 1 + 1 + 1 + 1 + 1 + 1) = j * 7 + i by omega]
    exact this
theorem infoE : (Try.prog.info? 67).map (fun i => (i.zero, i.size, i.bytes)) = some (some (.agg #[.int .i64 0, .int .i64 0, .int .i64 0, .int .i64 0, .int .i64 0, .int .i64 0, .int .u32 0]), 7, 56) := by kernel_rfl
/-- block r holds the document's rings: P ports, L lanes, n slots, the entries ls in the row that a leads to -/
structure RefIn (w : World) (F : Nat → Prop) (r P L n : Nat) (ls : List Ent) (a : Option Addr) (cap : Nat) : Prop where
  foot : ∀ k, F k → k < w.heap.size
  self : F r
  c0 : w.cell? ⟨r, 0, none⟩ = some (.int .i64 P)
  c1 : w.cell? ⟨r, 1, none⟩ = some (.int .i64 L)
  c2 : w.cell? ⟨r, 2, none⟩ = some (.int .i64 n)
  c3 : w.cell? ⟨r, 3, none⟩ = some (.slice a ls.length cap)
  f3 : w.frozen? ⟨r, 3, none⟩ = false
  row : w.ownsRow 0 67 7 (.slice a ls.length cap) ls.length (ecells ls)
  head : ∀ ad, a = some ad → F ad.block ∧ ad.block ≠ r
  len : ls.length ≤ n
  n2 : n ≤ 200
  p2 : P ≤ 16 ∧ L ≤ 3
def RefAt (w : World) (F : Nat → Prop) (r P L n : Nat) (ls : List Ent) : Prop := ∃ a cap, RefIn w F r P L n ls a cap
theorem RefIn.sans {w w' : World} {F G : Nat → Prop} {r P L n : Nat} {ls : List Ent} {a : Option Addr} {cap : Nat} (h : RefIn w F r P L n ls a cap) (k : Sans G w w') (hd : ∀ k, F k → ¬ G k) : RefIn w' F r P L n ls a cap := by
  have hr := h.foot r h.self
  have hn := hd r h.self
  exact ⟨fun j hj => Nat.lt_of_lt_of_le (h.foot j hj) k.size, h.self, (k.cell (p := ⟨r, 0, none⟩) hr hn).trans h.c0, (k.cell (p := ⟨r, 1, none⟩) hr hn).trans h.c1, (k.cell (p := ⟨r, 2, none⟩) hr hn).trans h.c2, (k.cell (p := ⟨r, 3, none⟩) hr hn).trans h.c3, (k.frozen (p := ⟨r, 3, none⟩) hr hn).trans h.f3,
    owns_lift h.row k (fun ad e => hd _ (h.head ad e).1), h.head, h.len, h.n2, h.p2⟩
theorem RefIn.below {w w' : World} {F : Nat → Prop} {r P L n : Nat} {ls : List Ent} {a : Option Addr} {cap : Nat} (h : RefIn w F r P L n ls a cap) (k : Below w.heap.size w w') : RefIn w' F r P L n ls a cap :=
  h.sans (G := fun _ => False) (Sans.of_below k) (fun _ _ e => e)
theorem RefAt.sans {w w' : World} {F G : Nat → Prop} {r P L n : Nat} {ls : List Ent} (h : RefAt w F r P L n ls) (k : Sans G w w') (hd : ∀ k, F k → ¬ G k) : RefAt w' F r P L n ls := by
  obtain ⟨a, cap, h⟩ := h
  exact ⟨a, cap, h.sans k hd⟩
theorem RefAt.below {w w' : World} {F : Nat → Prop} {r P L n : Nat} {ls : List Ent} (h : RefAt w F r P L n ls) (k : Below w.heap.size w w') : RefAt w' F r P L n ls := by
  obtain ⟨a, cap, h⟩ := h
  exact ⟨a, cap, h.below k⟩
theorem RefAt.foot {w : World} {F : Nat → Prop} {r P L n : Nat} {ls : List Ent} (h : RefAt w F r P L n ls) : ∀ k, F k → k < w.heap.size := by
  obtain ⟨a, cap, h⟩ := h
  exact h.foot
/-- an entry's cells -/
def EntAt (w : World) (g o : Nat) (e : Ent) : Prop :=
  w.cell? ⟨g, o, none⟩ = some (.int .i64 e.1.1) ∧ w.cell? ⟨g, o + 1, none⟩ = some (.int .i64 e.1.2.1) ∧ w.cell? ⟨g, o + 2, none⟩ = some (.int .i64 e.1.2.2) ∧ PkAt w g (o + 3) e.2
theorem RefIn.at {w : World} {F : Nat → Prop} {r P L n : Nat} {ls : List Ent} {a : Option Addr} {cap : Nat} (h : RefIn w F r P L n ls a cap) {j : Nat} {e : Ent} (hj : ls[j]? = some e) : ∃ g, a = some ⟨g, 0, none⟩ ∧ g < w.heap.size ∧ ls.length ≤ cap ∧ cap ≤ maxLen ∧ EntAt w g (j * 7) e := by
  have hlt : j < ls.length := (List.getElem?_eq_some_iff.1 hj).1
  have hrow := h.row
  rcases hrow.2 with ⟨e1, h0⟩ | ⟨g, cp, cur, e1, _, hg, hn, hm, _, _⟩
  · omega
  · simp only [Value.slice.injEq] at e1
    obtain ⟨rfl, _, rfl⟩ := e1
    have hc : ∀ i, i < 7 → w.cell? ⟨g, j * 7 + i, none⟩ = [Value.int .i64 e.1.1, .int .i64 e.1.2.1, .int .i64 e.1.2.2, .int .i64 e.2.s, .int .i64 e.2.d, .int .i64 e.2.l, .int .u32 e.2.b][i]? := fun i hi => by
      rw [hrow.cellAt (j * 7 + i) (by omega)]
      exact ecells_at hj i hi
    exact ⟨g, rfl, (hrow.lt g rfl).2, hn, hm, hc 0 (by omega), hc 1 (by omega), hc 2 (by omega), hc 3 (by omega), hc 4 (by omega), hc 5 (by omega), hc 6 (by omega)⟩
set_option maxHeartbeats 1000000 in
theorem refNew_good (P L n : Nat) (hP : 1 ≤ P ∧ P ≤ 16) (hL : 1 ≤ L ∧ L ≤ 3) (hn : 1 ≤ n ∧ n ≤ 200) (w : World) :
    Calls Try.prog 15 #[.int .i64 P, .int .i64 L, .int .i64 n] w fun e w' => ∃ r F, e = .returned (.pointer (some ⟨r, 0, none⟩)) ∧ RefAt w' F r P L n [] ∧ Below w.heap.size w w' ∧ ∀ k, F k → w.heap.size ≤ k := by
  have h1 : ¬ (P : Int) < 1 := by omega
  have h2 : ¬ (16 : Int) < P := by omega
  have h3 : ¬ (L : Int) < 1 := by omega
  have h4 : ¬ (3 : Int) < L := by omega
  have h5 : ¬ (n : Int) < 1 := by omega
  have h6 : ¬ (200 : Int) < n := by omega
  go_enter Try.func15, Try.ntmps15
  go_wp2_with fail
  go_ret
  have X : RefAt (w.alloc (.cells #[.int .i64 P, .int .i64 L, .int .i64 n, .slice none 0 0] 64)) (fun k => k = w.heap.size) w.heap.size P L n [] :=
    ⟨none, 0, ⟨fun k e => by rw [e]; simp, rfl, by simp, by simp, by simp, by simp, by simp, World.ownsRow_nil _ _ _ _, fun ad e => (by cases e), Nat.zero_le _, hn.2, ⟨hP.2, hL.2⟩⟩⟩
  first | exact ⟨w.heap.size, fun k => k = w.heap.size, rfl, X, fresh _ _, fun k e => Nat.le_of_eq e.symm⟩ | exact ⟨w.heap.size, rfl, fun k => k = w.heap.size, X, fresh _ _, fun k e => Nat.le_of_eq e.symm⟩
set_option maxHeartbeats 1000000 in
theorem refNew_bad (a b s : Int) (h : ¬ (1 ≤ a ∧ a ≤ 16 ∧ 1 ≤ b ∧ b ≤ 3 ∧ 1 ≤ s ∧ s ≤ 200)) (w : World) :
    Calls Try.prog 15 #[.int .i64 a, .int .i64 b, .int .i64 s] w fun e w' => e = .returned (.pointer none) ∧ w' = w := by
  have HH : Hid (¬ (1 ≤ a ∧ a ≤ 16 ∧ 1 ≤ b ∧ b ≤ 3 ∧ 1 ≤ s ∧ s ≤ 200)) := h
  clear h
  by_cases h1 : a < 1
  · go_enter Try.func15, Try.ntmps15
    go_wp2_with fail
    go_ret
    exact ⟨rfl, rfl⟩
  · by_cases h2 : 16 < a
    · go_enter Try.func15, Try.ntmps15
      go_wp2_with fail
      go_ret
      exact ⟨rfl, rfl⟩
    · by_cases h3 : b < 1
      · go_enter Try.func15, Try.ntmps15
        go_wp2_with fail
        go_ret
        exact ⟨rfl, rfl⟩
      · by_cases h4 : 3 < b
        · go_enter Try.func15, Try.ntmps15
          go_wp2_with fail
          go_ret
          exact ⟨rfl, rfl⟩
        · by_cases h5 : s < 1
          · go_enter Try.func15, Try.ntmps15
            go_wp2_with fail
            go_ret
            exact ⟨rfl, rfl⟩
          · have h6 : 200 < s := by have := HH.out; omega
            go_enter Try.func15, Try.ntmps15
            go_wp2_with fail
            go_ret
            exact ⟨rfl, rfl⟩
end Go.Proofs.Ytpbeldcaiceakaa
