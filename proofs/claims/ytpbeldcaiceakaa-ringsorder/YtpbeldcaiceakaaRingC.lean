/-
  Package rings, as it landed: what the store's functions come to, over rings whose memory is their own. Conditions: none but that the rings are such.
-/
import Derived.Test.YtpbeldcaiceakaaRingB
namespace Go.Proofs.Ytpbeldcaiceakaa
open Go.ChangeShapes Go.WideShapes Go.ChangeAt Go.RowKit
set_option linter.unusedVariables false

/-- slots sl have the packets xs, in this order -/
def Held (S : List (Option Pk)) (sl : List Nat) (xs : List Pk) : Prop := sl.length = xs.length ∧ ∀ (j k : Nat), sl[j]? = some k → ∃ x, xs[j]? = some x ∧ S[k]? = some (some x)
/-- block p holds rings of P ports, L lanes, over a pool (block pp, its memory in G) of n slots and a map (block mb) of the queues; all its memory is in F -/
structure RIn (w : World) (F G : Nat → Prop) (p pp mb P L n : Nat) (S : List (Option Pk)) (E : List Nat) (c : Nat) (V : Pl → Value) (sl : Pl → List Nat) (Qs : Pl → List Pk) : Prop where
  foot : ∀ k, F k → k < w.heap.size
  fp : F p
  fm : F mb
  fG : ∀ k, G k → F k
  pm : p ≠ mb
  pG : ¬ G p
  mG : ¬ G mb
  c0 : w.cell? ⟨p, 0, none⟩ = some (.int .i64 P)
  c1 : w.cell? ⟨p, 1, none⟩ = some (.int .i64 P)
  c2 : w.cell? ⟨p, 2, none⟩ = some (.int .i64 L)
  c3 : w.cell? ⟨p, 3, none⟩ = some (.pointer (some ⟨pp, 0, none⟩))
  c4 : w.cell? ⟨p, 4, none⟩ = some (.map (some mb))
  pool : PoolAt w G pp n S E
  map : QMap w mb c V
  row : ∀ q, QRow w (V q) (sl q)
  blk : ∀ q g, vblk (V q) g → F g ∧ g ≠ p ∧ g ≠ mb ∧ ¬ G g
  one : ∀ q q' g, vblk (V q) g → vblk (V q') g → q = q'
  len : ∀ q, (sl q).length ≤ c
  held : ∀ q, Held S (sl q) (Qs q)
  once : ∀ q q' (j j' k : Nat), (sl q)[j]? = some k → (sl q')[j']? = some k → q = q' ∧ j = j'
theorem RIn.sans {w w' : World} {F G H : Nat → Prop} {p pp mb P L n c : Nat} {S : List (Option Pk)} {E : List Nat} {V : Pl → Value} {sl : Pl → List Nat} {Qs : Pl → List Pk} (h : RIn w F G p pp mb P L n S E c V sl Qs) (k : Sans H w w') (hd : ∀ k, F k → ¬ H k) : RIn w' F G p pp mb P L n S E c V sl Qs := by
  have hp := h.foot p h.fp
  have hn := hd p h.fp
  exact ⟨fun j hj => Nat.lt_of_lt_of_le (h.foot j hj) k.size, h.fp, h.fm, h.fG, h.pm, h.pG, h.mG, (k.cell (p := ⟨p, 0, none⟩) hp hn).trans h.c0, (k.cell (p := ⟨p, 1, none⟩) hp hn).trans h.c1, (k.cell (p := ⟨p, 2, none⟩) hp hn).trans h.c2, (k.cell (p := ⟨p, 3, none⟩) hp hn).trans h.c3, (k.cell (p := ⟨p, 4, none⟩) hp hn).trans h.c4,
    h.pool.sans k (fun j hj => hd j (h.fG j hj)), h.map.sans k (hd _ h.fm), fun q => (h.row q).sans k (fun g hg => hd g (h.blk q g hg).1), h.blk, h.one, h.len, h.held, h.once⟩
theorem RIn.below {w w' : World} {F G : Nat → Prop} {p pp mb P L n c : Nat} {S : List (Option Pk)} {E : List Nat} {V : Pl → Value} {sl : Pl → List Nat} {Qs : Pl → List Pk} (h : RIn w F G p pp mb P L n S E c V sl Qs) (k : Below w.heap.size w w') : RIn w' F G p pp mb P L n S E c V sl Qs :=
  h.sans (H := fun _ => False) (Sans.of_below k) (fun _ _ e => e)
/-- four cells laid one behind the other -/
def lay4 (w : World) (b o : Nat) (x : Pk) : World := (((w.setCell ⟨b, o, none⟩ (.int .i64 x.s)).setCell ⟨b, o + 1, none⟩ (.int .i64 x.d)).setCell ⟨b, o + 2, none⟩ (.int .i64 x.l)).setCell ⟨b, o + 3, none⟩ (.int .u32 x.b)
theorem lay4_sans (w : World) (b o : Nat) (x : Pk) : Sans (fun j => j = b) w (lay4 w b o x) :=
  (((Sans.of_set (F := fun j => j = b) w ⟨b, o, none⟩ _ rfl).then (Sans.of_set _ ⟨b, o + 1, none⟩ _ rfl)).then (Sans.of_set _ ⟨b, o + 2, none⟩ _ rfl)).then (Sans.of_set _ ⟨b, o + 3, none⟩ _ rfl)
theorem lay4_below {w W : World} {b o : Nat} {x : Pk} (h : Below w.heap.size w W) (hb : w.heap.size ≤ b) : Below w.heap.size w (lay4 W b o x) := h.trans ((lay4_sans W b o x).below h.size (fun k e => by rw [e]; exact hb))
/-- four cells that may be written -/
structure Four (w : World) (b : Nat) : Prop where
  a0 : ∃ v, w.cell? ⟨b, 0, none⟩ = some v
  a1 : ∃ v, w.cell? ⟨b, 1, none⟩ = some v
  a2 : ∃ v, w.cell? ⟨b, 2, none⟩ = some v
  a3 : ∃ v, w.cell? ⟨b, 3, none⟩ = some v
  f0 : w.frozen? ⟨b, 0, none⟩ = false
  f1 : w.frozen? ⟨b, 1, none⟩ = false
  f2 : w.frozen? ⟨b, 2, none⟩ = false
  f3 : w.frozen? ⟨b, 3, none⟩ = false
theorem Four.lt {w : World} {b : Nat} (h : Four w b) : b < w.heap.size := by
  obtain ⟨v, h⟩ := h.a0
  exact cell_lt h
theorem Four.sans {F : Nat → Prop} {w w' : World} {b : Nat} (h : Four w b) (k : Sans F w w') (hn : ¬ F b) : Four w' b := by
  have hb := h.lt
  have ec : ∀ j, w'.cell? ⟨b, j, none⟩ = w.cell? ⟨b, j, none⟩ := fun j => k.cell (p := ⟨b, j, none⟩) hb hn
  have ef : ∀ j, w'.frozen? ⟨b, j, none⟩ = w.frozen? ⟨b, j, none⟩ := fun j => k.frozen (p := ⟨b, j, none⟩) hb hn
  exact ⟨by rw [ec]; exact h.a0, by rw [ec]; exact h.a1, by rw [ec]; exact h.a2, by rw [ec]; exact h.a3, by rw [ef]; exact h.f0, by rw [ef]; exact h.f1, by rw [ef]; exact h.f2, by rw [ef]; exact h.f3⟩
theorem Four.below {w w' : World} {b : Nat} (h : Four w b) (k : Below w.heap.size w w') : Four w' b := h.sans (F := fun _ => False) (Sans.of_below k) (fun e => e)
theorem Four.new (w : World) (a b c d : Value) (t : TypeId) : Four (w.alloc (.cells #[a, b, c, d] t)) w.heap.size := ⟨⟨a, by simp⟩, ⟨b, by simp⟩, ⟨c, by simp⟩, ⟨d, by simp⟩, by simp, by simp, by simp, by simp⟩
def pkv (x : Pk) : Value := .agg #[.int .i64 x.s, .int .i64 x.d, .int .i64 x.l, .int .u32 x.b]
section
variable {w : World} {F G : Nat → Prop} {p pp mb P L n c : Nat} {S : List (Option Pk)} {E : List Nat} {V : Pl → Value} {sl : Pl → List Nat} {Qs : Pl → List Pk}
theorem Held.first {sl : List Nat} {xs : List Pk} {x : Pk} {r : List Pk} (h : Held S sl xs) (hx : xs = x :: r) : ∃ k sr, sl = k :: sr ∧ S[k]? = some (some x) := by
  subst hx
  cases sl with
  | nil => have := h.1; simp at this
  | cons k sr =>
    obtain ⟨y, hy, hS⟩ := h.2 0 k rfl
    simp at hy
    subst hy
    exact ⟨k, sr, rfl, hS⟩
theorem Held.empty {sl : List Nat} (h : Held S sl []) : sl = [] := List.length_eq_zero_iff.1 h.1
theorem RIn.nilV (h : RIn w F G p pp mb P L n S E c V sl Qs) {q : Pl} (hq : Qs q = []) : ∃ a cap, V q = .slice a 0 cap := by
  have hs : sl q = [] := (hq ▸ h.held q : Held S (sl q) []).empty
  rcases h.row q with ⟨e, _⟩ | ⟨g, off, cap, e, _⟩
  · exact ⟨none, 0, e⟩
  · rw [hs] at e
    exact ⟨_, cap, e⟩
theorem RIn.consV (h : RIn w F G p pp mb P L n S E c V sl Qs) {q : Pl} {k : Nat} {sr : List Nat} (hq : sl q = k :: sr) : ∃ g off cap, V q = .slice (some ⟨g, off, none⟩) (sr.length + 1) cap ∧ w.cell? ⟨g, off, none⟩ = some (.int .i64 (k : Nat)) ∧ sr.length + 1 ≤ cap ∧ cap ≤ maxLen ∧ g < w.heap.size := by
  have hr := h.row q
  rw [hq] at hr
  rcases hr with ⟨_, e⟩ | ⟨g, off, cap, e, hlt, h1, h2, h3, _⟩
  · cases e
  · exact ⟨g, off, cap, e, h3 0 k rfl, h1, h2, hlt⟩
set_option maxHeartbeats 1000000 in
set_option maxRecDepth 100000 in
theorem shead_no (h : RIn w F G p pp mb P L n S E c V sl Qs) (i o l : Int) (hq : Wf (i, o, l)) (hx : Qs (i, o, l) = []) :
    Calls Try.prog 22 #[.pointer (some ⟨p, 3, none⟩), .agg #[.int .i64 i, .int .i64 o, .int .i64 l]] w fun e w' => e = .returned (.tuple #[.agg #[.int .i64 0, .int .i64 0, .int .i64 0, .int .u32 0], .bool false]) ∧ Below w.heap.size w w' := by
  obtain ⟨a, cap, hV⟩ := h.nilV hx
  obtain ⟨W, hW⟩ : ∃ W, W = (w.alloc (.cells #[.int .i64 i, .int .i64 o, .int .i64 l] 51)).alloc (.cells #[.int .i64 0, .int .i64 0, .int .i64 0, .int .u32 0] 27) := ⟨_, rfl⟩
  have bel : Below w.heap.size w W := by rw [hW]; exact later (fresh _ _) (fresh _ _)
  have h2 := h.below bel
  have hc4 := h2.c4
  have hb0 : W.cell? ⟨w.heap.size, 0, none⟩ = some (.int .i64 i) := by rw [hW]; simp
  have hb1 : W.cell? ⟨w.heap.size, 1, none⟩ = some (.int .i64 o) := by rw [hW]; simp
  have hb2 : W.cell? ⟨w.heap.size, 2, none⟩ = some (.int .i64 l) := by rw [hW]; simp
  have hl : (Instr.lookup 52 (.map (some mb)) (.agg #[.int .i64 i, .int .i64 o, .int .i64 l]) false).run Try.prog W.drew = .ok (.slice a 0 cap) W.drew := by
    have := (h2.below (drewN_below W 1)).map.look hq
    rw [hV] at this
    exact this
  have h4 : Four W (w.heap.size + 1) := by
    have := Four.new (w.alloc (.cells #[.int .i64 i, .int .i64 o, .int .i64 l] 51)) (.int .i64 0) (.int .i64 0) (.int .i64 0) (.int .u32 0) 27
    rw [← hW] at this
    simpa using this
  obtain ⟨⟨v0, r0⟩, ⟨v1, r1⟩, ⟨v2, r2⟩, ⟨v3, r3⟩, f0, f1, f2, f3⟩ := h4
  have HB : Hid (Below w.heap.size w W) := bel
  clear h h2 hx bel
  go_enter Try.func22, Try.ntmps22
  go_wp2_with fail
  rw [← hW]
  clear hW
  go_region_held3 (fun w' => w'.cell? ⟨p, 4, none⟩ = some (.map (some mb)) ∧ w'.cell? ⟨w.heap.size, 0, none⟩ = some (.int .i64 i) ∧ w'.cell? ⟨w.heap.size, 1, none⟩ = some (.int .i64 o) ∧ w'.cell? ⟨w.heap.size, 2, none⟩ = some (.int .i64 l) ∧ (Instr.lookup 52 (.map (some mb)) (.agg #[.int .i64 i, .int .i64 o, .int .i64 l]) false).run Try.prog w' = .ok (.slice a 0 cap) w') (go_keep) (fail)
  go_wp2_with fail
  exact bodyPost_ret (v := .tuple #[.agg #[.int .i64 0, .int .i64 0, .int .i64 0, .int .u32 0], .bool false]) (by simp [results, Try.results22, go_sem, r0, r1, r2, r3]) rfl ⟨rfl, lay4_below (x := ⟨0, 0, 0, 0⟩) (o := 0) (later HB.out (drewN_below _ 1)) (Nat.le_succ _)⟩
set_option maxHeartbeats 1000000 in
set_option maxRecDepth 100000 in
theorem shead_yes (h : RIn w F G p pp mb P L n S E c V sl Qs) (i o l : Int) (hq : Wf (i, o, l)) (x : Pk) (r : List Pk) (hx : Qs (i, o, l) = x :: r) :
    Calls Try.prog 22 #[.pointer (some ⟨p, 3, none⟩), .agg #[.int .i64 i, .int .i64 o, .int .i64 l]] w fun e w' => e = .returned (.tuple #[.agg #[.int .i64 x.s, .int .i64 x.d, .int .i64 x.l, .int .u32 x.b], .bool true]) ∧ Below w.heap.size w w' := by
  obtain ⟨k, sr, hsl, hSk⟩ := (h.held (i, o, l)).first hx
  obtain ⟨g, off, cap, hV, hcg, hcap, hcm, hgl⟩ := h.consV hsl
  obtain ⟨m, hm⟩ : ∃ m, sr.length = m := ⟨_, rfl⟩
  rw [hm] at hV hcap
  obtain ⟨W, hW⟩ : ∃ W, W = (w.alloc (.cells #[.int .i64 i, .int .i64 o, .int .i64 l] 51)).alloc (.cells #[.int .i64 0, .int .i64 0, .int .i64 0, .int .u32 0] 27) := ⟨_, rfl⟩
  have bel : Below w.heap.size w W := by rw [hW]; exact later (fresh _ _) (fresh _ _)
  have h2 := h.below bel
  have hc4 := h2.c4
  have hc3 := h2.c3
  have hb0 : W.cell? ⟨w.heap.size, 0, none⟩ = some (.int .i64 i) := by rw [hW]; simp
  have hb1 : W.cell? ⟨w.heap.size, 1, none⟩ = some (.int .i64 o) := by rw [hW]; simp
  have hb2 : W.cell? ⟨w.heap.size, 2, none⟩ = some (.int .i64 l) := by rw [hW]; simp
  have hcgW : W.cell? ⟨g, off, none⟩ = some (.int .i64 (k : Nat)) := (bel.cell (p := ⟨g, off, none⟩) hgl).trans hcg
  have hl : (Instr.lookup 52 (.map (some mb)) (.agg #[.int .i64 i, .int .i64 o, .int .i64 l]) false).run Try.prog W.drew = .ok (.slice (some ⟨g, off, none⟩) (m + 1) cap) W.drew := by
    have := (h2.below (drewN_below W 1)).map.look hq
    rw [hV] at this
    exact this
  have h4 : Four W (w.heap.size + 1) := by
    have := Four.new (w.alloc (.cells #[.int .i64 i, .int .i64 o, .int .i64 l] 51)) (.int .i64 0) (.int .i64 0) (.int .i64 0) (.int .u32 0) 27
    rw [← hW] at this
    simpa using this
  have H4 : Hid (Four W (w.heap.size + 1)) := h4
  have HB : Hid (Below w.heap.size w W) := bel
  have HP : Hid (PoolAt W G pp n S E ∧ S[k]? = some (some x)) := ⟨h2.pool, hSk⟩
  have hpl : p < W.heap.size := h2.foot p h2.fp
  have hgl2 : g < W.heap.size := Nat.lt_of_lt_of_le hgl bel.size
  have hp1 : ¬ p = w.heap.size + 1 := by have := h.foot p h.fp; omega
  have hg1 : ¬ g = w.heap.size + 1 := by omega
  have hm0 : 0 < m + 1 := by omega
  have hne : ¬ (m : Int) + 1 = 0 := by omega
  unfold maxLen at hcm
  have hmx : m ≤ 9223372036854775806 := by omega
  clear h h2 hx bel hsl hSk hcg hm h4
  go_enter Try.func22, Try.ntmps22
  go_wp2_with fail
  rw [← hW]
  clear hW
  go_region_held3 (fun w' => w'.cell? ⟨p, 4, none⟩ = some (.map (some mb)) ∧ w'.cell? ⟨w.heap.size, 0, none⟩ = some (.int .i64 i) ∧ w'.cell? ⟨w.heap.size, 1, none⟩ = some (.int .i64 o) ∧ w'.cell? ⟨w.heap.size, 2, none⟩ = some (.int .i64 l) ∧ (Instr.lookup 52 (.map (some mb)) (.agg #[.int .i64 i, .int .i64 o, .int .i64 l]) false).run Try.prog w' = .ok (.slice (some ⟨g, off, none⟩) (m + 1) cap) w') (go_keep) (fail)
  go_wp2_with fail
  clear hl
  go_region_held3 (fun w' => w'.cell? ⟨p, 3, none⟩ = some (.pointer (some ⟨pp, 0, none⟩)) ∧ w'.cell? ⟨g, off, none⟩ = some (.int .i64 (k : Nat))) (first | exact ⟨((lay4_sans u (w.heap.size + 1) 0 x).cell (p := ⟨p, 3, none⟩) (cell_lt k3) hp1).trans k3, ((lay4_sans u (w.heap.size + 1) 0 x).cell (p := ⟨g, off, none⟩) (cell_lt kg) hg1).trans kg⟩ | go_keep)
    (first | (go_at_call 29; refine (get_yes (HP.out.1.below (drewN_below _ 2)) HP.out.2).mono ?_; rintro e u ⟨rfl, hb⟩; have k3 : u.cell? ⟨p, 3, none⟩ = some (.pointer (some ⟨pp, 0, none⟩)) := (hb.cell (p := ⟨p, 3, none⟩) hpl).trans hc3; have kg : u.cell? ⟨g, off, none⟩ = some (.int .i64 (k : Nat)) := (hb.cell (p := ⟨g, off, none⟩) hgl2).trans hcgW; have HU : Hid (Below w.heap.size w u) := later (later HB.out (drewN_below _ 2)) hb; obtain ⟨⟨v0, r0⟩, ⟨v1, r1⟩, ⟨v2, r2⟩, ⟨v3, r3⟩, f0, f1, f2, f3⟩ := (H4.out.below (drewN_below W 2)).below hb))
  go_wp2_with fail
  exact bodyPost_ret (v := .tuple #[.agg #[.int .i64 x.s, .int .i64 x.d, .int .i64 x.l, .int .u32 x.b], .bool true]) (by simp [results, Try.results22, go_sem, r0, r1, r2, r3]) rfl ⟨rfl, lay4_below (x := x) (o := 0) HU.out (Nat.le_succ _)⟩
end
end Go.Proofs.Ytpbeldcaiceakaa
