/-
  Packets: their four numbers, where they lie, and rows of them of the call's own. Conditions: none.
-/
import Derived.Test.YtfldhjeeoaplfaaSans
import Derived.OwnWalk
import Derived.Deep.OwnRows
import Derived.BigQuiet
namespace Go.Proofs.Ytfldhjeeoaplfaa
open Go.ChangeShapes Go.WideShapes Go.ChangeAt Go.RowKit
set_option linter.unusedVariables false

/-- a packet's numbers -/
structure Pk where
  s : Int
  d : Int
  l : Int
  b : Int
def zpk : Pk := ⟨0, 0, 0, 0⟩
def PkAt (w : World) (b o : Nat) (x : Pk) : Prop :=
  w.cell? ⟨b, o, none⟩ = some (.int .i64 x.s) ∧ w.cell? ⟨b, o + 1, none⟩ = some (.int .i64 x.d) ∧ w.cell? ⟨b, o + 2, none⟩ = some (.int .i64 x.l) ∧ w.cell? ⟨b, o + 3, none⟩ = some (.int .u32 x.b)
theorem PkAt.lt {w : World} {b o : Nat} {x : Pk} (h : PkAt w b o x) : b < w.heap.size := cell_lt h.1
theorem PkAt.sans {F : Nat → Prop} {w w' : World} {b o : Nat} {x : Pk} (h : PkAt w b o x) (k : Sans F w w') (hn : ¬ F b) : PkAt w' b o x := by
  have e : ∀ j, w'.cell? ⟨b, j, none⟩ = w.cell? ⟨b, j, none⟩ := fun j => k.cell (p := ⟨b, j, none⟩) h.lt hn
  exact ⟨(e _).trans h.1, (e _).trans h.2.1, (e _).trans h.2.2.1, (e _).trans h.2.2.2⟩
theorem PkAt.below {w w' : World} {b o : Nat} {v : Pk} (h : PkAt w b o v) (k : Below w.heap.size w w') : PkAt w' b o v := h.sans (F := fun _ => False) (Sans.of_below k) (fun e => e)
theorem PkAt.new (w : World) (x : Pk) : PkAt (w.alloc (.cells #[.int .i64 x.s, .int .i64 x.d, .int .i64 x.l, .int .u32 x.b] 27)) w.heap.size 0 x := ⟨by simp, by simp, by simp, by simp⟩
/-- packets, as cells one behind the other -/
def kcells (xs : List Pk) : List Value := xs.flatMap fun x => [.int .i64 x.s, .int .i64 x.d, .int .i64 x.l, .int .u32 x.b]
theorem kcells_snoc (xs : List Pk) (x : Pk) : kcells (xs ++ [x]) = kcells xs ++ [.int .i64 x.s, .int .i64 x.d, .int .i64 x.l, .int .u32 x.b] := by simp [kcells]
theorem kcells_length (xs : List Pk) : (kcells xs).length = xs.length * 4 := by
  induction xs with
  | nil => rfl
  | cons x r ih =>
    have : kcells (x :: r) = [.int .i64 x.s, .int .i64 x.d, .int .i64 x.l, .int .u32 x.b] ++ kcells r := by simp [kcells]
    rw [this, List.length_append, ih]
    simp
    omega
theorem infoPk : (Try.prog.info? 27).map (fun i => (i.zero, i.size, i.bytes)) = some (some (.agg #[.int .i64 0, .int .i64 0, .int .i64 0, .int .u32 0]), 4, 32) := by kernel_rfl
/-- a row of packets of the call's own -/
def PRow (w : World) (base : Nat) (v : Value) (xs : List Pk) : Prop := w.ownsRow base 27 4 v xs.length (kcells xs)
theorem PRow.below {w w' : World} {base : Nat} {v : Value} {xs : List Pk} (h : PRow w base v xs) (k : Below w.heap.size w w') : PRow w' base v xs := by
  exact World.ownsRow.kept h (row := Option.none) ⟨k.os, k.tape, k.output, k.size, fun j hj _ => k.block j hj⟩ (by cases hv : v.ownBlock with | none => exact .inl rfl | some k => exact .inr (by simp))
theorem four_one (a b c d : Int) : ∀ u ∈ [Value.int .i64 a, .int .i64 b, .int .i64 c, .int .u32 d], u.oneCell' = true := by
  intro u hu
  simp only [List.mem_cons, List.not_mem_nil, or_false] at hu
  rcases hu with rfl | rfl | rfl | rfl <;> rfl
theorem four_cell (w : World) (a b c d : Int) : ∀ (j : Nat) (u : Value), [Value.int .i64 a, .int .i64 b, .int .i64 c, .int .u32 d][j]? = some u → (w.alloc (.cells #[.int .i64 a, .int .i64 b, .int .i64 c, .int .u32 d] 27)).cell? ((⟨w.heap.size, 0, none⟩ : Addr).add j) = some u := by
  intro j u hu
  rw [Addr.add_lit]
  match j with
  | 0 => simpa using hu
  | 1 => simpa using hu
  | 2 => simpa using hu
  | 3 => simpa using hu
  | (j + 4) => simp at hu
theorem PRow.shape {w : World} {base : Nat} {v : Value} {xs : List Pk} (h : PRow w base v xs) : ∃ a cap, v = .slice a xs.length cap := by
  rcases h.2 with ⟨rfl, h0⟩ | ⟨g, cap, cur, rfl, _⟩
  · exact ⟨none, 0, by rw [h0]⟩
  · exact ⟨_, cap, rfl⟩
theorem kcells_at : ∀ {xs : List Pk} {j : Nat} {x : Pk} (h : xs[j]? = some x) (i : Nat), i < 4 → (kcells xs)[j * 4 + i]? = [Value.int .i64 x.s, .int .i64 x.d, .int .i64 x.l, .int .u32 x.b][i]?
  | [], j, e, h, i, hi => by simp at h
  | f :: ls, 0, e, h, i, hi => by
    simp at h
    subst h
    have : kcells (f :: ls) = [.int .i64 f.s, .int .i64 f.d, .int .i64 f.l, .int .u32 f.b] ++ kcells ls := by simp [kcells]
    rw [this, List.getElem?_append_left (by simp; omega), Nat.zero_mul, Nat.zero_add]
  | f :: ls, j + 1, e, h, i, hi => by
    have : kcells (f :: ls) = [.int .i64 f.s, .int .i64 f.d, .int .i64 f.l, .int .u32 f.b] ++ kcells ls := by simp [kcells]
    rw [this, List.getElem?_append_right (by simp; omega)]
    have := kcells_at (xs := ls) (j := j) (x := e) (by simpa using h) i hi
    simp only [List.length_cons, List.length_nil]
    rw [show (j + 1) * 4 + i - (0 + 1 + 1 + 1 + 1) = j * 4 + i by omega]
    exact this
theorem PRow.at {w : World} {base len cap : Nat} {a : Option Addr} {xs : List Pk} (h : PRow w base (.slice a len cap) xs) {j : Nat} {x : Pk} (hj : xs[j]? = some x) : ∃ g, a = some ⟨g, 0, none⟩ ∧ g < w.heap.size ∧ PkAt w g (j * 4) x := by
  have hlt : j < xs.length := (List.getElem?_eq_some_iff.1 hj).1
  unfold PRow at h
  rcases h.2 with ⟨e1, h0⟩ | ⟨g, cp, cur, e1, _, hg, hn, hm, _, _⟩
  · omega
  · simp only [Value.slice.injEq] at e1
    obtain ⟨rfl, rfl, rfl⟩ := e1
    have hc : ∀ i, i < 4 → w.cell? ⟨g, j * 4 + i, none⟩ = [Value.int .i64 x.s, .int .i64 x.d, .int .i64 x.l, .int .u32 x.b][i]? := fun i hi => by
      rw [h.cellAt (j * 4 + i) (by omega)]
      exact kcells_at hj i hi
    exact ⟨g, rfl, (h.lt g rfl).2, hc 0 (by omega), hc 1 (by omega), hc 2 (by omega), hc 3 (by omega)⟩
/-- four cells laid one behind the other -/
def lay4 (w : World) (b o : Nat) (x : Pk) : World := (((w.setCell ⟨b, o, none⟩ (.int .i64 x.s)).setCell ⟨b, o + 1, none⟩ (.int .i64 x.d)).setCell ⟨b, o + 2, none⟩ (.int .i64 x.l)).setCell ⟨b, o + 3, none⟩ (.int .u32 x.b)
theorem lay4_sans (w : World) (b o : Nat) (x : Pk) : Sans (fun j => j = b) w (lay4 w b o x) :=
  (((Sans.of_set (F := fun j => j = b) w ⟨b, o, none⟩ _ rfl).then (Sans.of_set _ ⟨b, o + 1, none⟩ _ rfl)).then (Sans.of_set _ ⟨b, o + 2, none⟩ _ rfl)).then (Sans.of_set _ ⟨b, o + 3, none⟩ _ rfl)
theorem lay4_below {w W : World} {b o : Nat} {x : Pk} (h : Below w.heap.size w W) (hb : w.heap.size ≤ b) : Below w.heap.size w (lay4 W b o x) := h.trans ((lay4_sans W b o x).below h.size (fun k e => by rw [e]; exact hb))
/-- four cells that may be written -/
structure Four (w : World) (b : Nat) : Prop where
  a0 : ∃ v, w.cell? ⟨b, 0, none⟩ = some v
  a1 : ∃ v, w.cell? ⟨b, 1, none⟩ = some v
  a2 : ∃ v, w.cell? ⟨b, 2, none⟩ = some v
  a3 : ∃ v, w.cell? ⟨b, 3, none⟩ = some v
  f0 : w.frozen? ⟨b, 0, none⟩ = false
  f1 : w.frozen? ⟨b, 1, none⟩ = false
  f2 : w.frozen? ⟨b, 2, none⟩ = false
  f3 : w.frozen? ⟨b, 3, none⟩ = false
theorem Four.lt {w : World} {b : Nat} (h : Four w b) : b < w.heap.size := by
  obtain ⟨v, h⟩ := h.a0
  exact cell_lt h
theorem Four.sans {F : Nat → Prop} {w w' : World} {b : Nat} (h : Four w b) (k : Sans F w w') (hn : ¬ F b) : Four w' b := by
  have hb := h.lt
  have ec : ∀ j, w'.cell? ⟨b, j, none⟩ = w.cell? ⟨b, j, none⟩ := fun j => k.cell (p := ⟨b, j, none⟩) hb hn
  have ef : ∀ j, w'.frozen? ⟨b, j, none⟩ = w.frozen? ⟨b, j, none⟩ := fun j => k.frozen (p := ⟨b, j, none⟩) hb hn
  exact ⟨by rw [ec]; exact h.a0, by rw [ec]; exact h.a1, by rw [ec]; exact h.a2, by rw [ec]; exact h.a3, by rw [ef]; exact h.f0, by rw [ef]; exact h.f1, by rw [ef]; exact h.f2, by rw [ef]; exact h.f3⟩
theorem Four.below {w w' : World} {b : Nat} (h : Four w b) (k : Below w.heap.size w w') : Four w' b := h.sans (F := fun _ => False) (Sans.of_below k) (fun e => e)
theorem Four.new (w : World) (a b c d : Value) (t : TypeId) : Four (w.alloc (.cells #[a, b, c, d] t)) w.heap.size := ⟨⟨a, by simp⟩, ⟨b, by simp⟩, ⟨c, by simp⟩, ⟨d, by simp⟩, by simp, by simp, by simp, by simp⟩
end Go.Proofs.Ytfldhjeeoaplfaa
