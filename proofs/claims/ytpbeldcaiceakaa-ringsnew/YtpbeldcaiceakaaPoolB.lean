/-
  Package pool, bs it landed: what each of its functions comes to, over a pool whose memory is its own. Conditions: none but that the pool is one.
-/
import Derived.Test.YtpbeldcaiceakaaPoolA
import Derived.Deep.RegionHeld3
namespace Go.Proofs.Ytpbeldcaiceakaa
open Go.ChangeShapes Go.WideShapes Go.ChangeAt Go.RowKit
set_option linter.unusedVariables false

def ptr : Option Nat → Value
  | none => .pointer none
  | some b => .pointer (some ⟨b, 0, none⟩)
def PkAt (w : World) (b o : Nat) (x : Pk) : Prop :=
  w.cell? ⟨b, o, none⟩ = some (.int .i64 x.s) ∧ w.cell? ⟨b, o + 1, none⟩ = some (.int .i64 x.d) ∧ w.cell? ⟨b, o + 2, none⟩ = some (.int .i64 x.l) ∧ w.cell? ⟨b, o + 3, none⟩ = some (.int .u32 x.b)
theorem PkAt.lt {w : World} {b o : Nat} {x : Pk} (h : PkAt w b o x) : b < w.heap.size := cell_lt h.1
theorem PkAt.sans {F : Nat → Prop} {w w' : World} {b o : Nat} {x : Pk} (h : PkAt w b o x) (k : Sans F w w') (hn : ¬ F b) : PkAt w' b o x := by
  have e : ∀ j, w'.cell? ⟨b, j, none⟩ = w.cell? ⟨b, j, none⟩ := fun j => k.cell (p := ⟨b, j, none⟩) h.lt hn
  exact ⟨(e _).trans h.1, (e _).trans h.2.1, (e _).trans h.2.2.1, (e _).trans h.2.2.2⟩
/-- block p holds a pool: rows gs (pointers to what slots have, in blocks bs) and ge (the empty ones); all its memory is in F -/
structure PoolIn (w : World) (F : Nat → Prop) (p gs ge n : Nat) (S : List (Option Pk)) (E : List Nat) (bs : List (Option Nat)) : Prop where
  foot : ∀ k, F k → k < w.heap.size
  fp : F p
  fg : F gs
  fe : F ge
  gp : gs ≠ p
  ep : ge ≠ p
  eg : ge ≠ gs
  c0 : w.cell? ⟨p, 0, none⟩ = some (.slice (some ⟨gs, 0, none⟩) n n)
  c1 : w.cell? ⟨p, 1, none⟩ = some (.slice (some ⟨ge, 0, none⟩) E.length n)
  f1 : w.frozen? ⟨p, 1, none⟩ = false
  row : w.ownsRow 0 77 1 (.slice (some ⟨gs, 0, none⟩) n n) n (bs.map ptr)
  stk : w.ownsRow 0 3 1 (.slice (some ⟨ge, 0, none⟩) E.length n) E.length (ints E)
  pk : ∀ (k b : Nat), bs[k]? = some (some b) → F b ∧ b ≠ p ∧ b ≠ gs ∧ b ≠ ge ∧ ∃ x, S[k]? = some (some x) ∧ PkAt w b 0 x
  no : ∀ k : Nat, bs[k]? = some none → S[k]? = some none
  inv : Inv n S E
  n1 : 1 ≤ n
  n2 : n ≤ 200
def PoolAt (w : World) (F : Nat → Prop) (p n : Nat) (S : List (Option Pk)) (E : List Nat) : Prop := ∃ gs ge bs, PoolIn w F p gs ge n S E bs
theorem PoolIn.sans {w w' : World} {F G : Nat → Prop} {p gs ge n : Nat} {S : List (Option Pk)} {E : List Nat} {bs : List (Option Nat)} (h : PoolIn w F p gs ge n S E bs) (k : Sans G w w') (hd : ∀ k, F k → ¬ G k) : PoolIn w' F p gs ge n S E bs := by
  have hp := h.foot p h.fp
  have hn := hd p h.fp
  exact ⟨fun j hj => Nat.lt_of_lt_of_le (h.foot j hj) k.size, h.fp, h.fg, h.fe, h.gp, h.ep, h.eg, (k.cell (p := ⟨p, 0, none⟩) hp hn).trans h.c0, (k.cell (p := ⟨p, 1, none⟩) hp hn).trans h.c1, (k.frozen (p := ⟨p, 1, none⟩) hp hn).trans h.f1,
    owns_at h.row k (hd _ h.fg), owns_at h.stk k (hd _ h.fe),
    fun j b hj => by obtain ⟨h1, h2, h3, h4, x, h5, h6⟩ := h.pk j b hj; exact ⟨h1, h2, h3, h4, x, h5, h6.sans k (hd _ h1)⟩, h.no, h.inv, h.n1, h.n2⟩
theorem PoolAt.sans {w w' : World} {F G : Nat → Prop} {p n : Nat} {S : List (Option Pk)} {E : List Nat} (h : PoolAt w F p n S E) (k : Sans G w w') (hd : ∀ k, F k → ¬ G k) : PoolAt w' F p n S E := by
  obtain ⟨gs, ge, bs, h⟩ := h
  exact ⟨gs, ge, bs, h.sans k hd⟩
theorem PoolAt.below {w w' : World} {F : Nat → Prop} {p n : Nat} {S : List (Option Pk)} {E : List Nat} (h : PoolAt w F p n S E) (k : Below w.heap.size w w') : PoolAt w' F p n S E :=
  h.sans (G := fun _ => False) (Sans.of_below k) (fun _ _ e => e)
theorem PoolAt.inv {w : World} {F : Nat → Prop} {p n : Nat} {S : List (Option Pk)} {E : List Nat} (h : PoolAt w F p n S E) : Inv n S E := by
  obtain ⟨gs, ge, bs, h⟩ := h; exact h.inv
theorem PoolAt.foot {w : World} {F : Nat → Prop} {p n : Nat} {S : List (Option Pk)} {E : List Nat} (h : PoolAt w F p n S E) : ∀ k, F k → k < w.heap.size := by
  obtain ⟨gs, ge, bs, h⟩ := h; exact h.foot
theorem infoP : (Try.prog.info? 77).map (fun i => (i.zero, i.size, i.bytes)) = some (some (.pointer none), 1, 8) := by kernel_rfl
theorem new_end {u : World} {gs ge n : Nat} (hn : 1 ≤ n ∧ n ≤ 200) (hg : gs < u.heap.size) (he : ge < u.heap.size) (hne : ge ≠ gs) (hr : u.ownsRow 0 77 1 (.slice (some ⟨gs, 0, none⟩) n n) n ((List.replicate n none).map ptr)) (hs : u.ownsRow 0 3 1 (.slice (some ⟨ge, 0, none⟩) n n) n (ints (down n))) :
    PoolAt (u.alloc (.cells #[.slice (some ⟨gs, 0, none⟩) n n, .slice (some ⟨ge, 0, none⟩) n n] 72)) (fun k => k = u.heap.size ∨ k = gs ∨ k = ge) u.heap.size n (none_ n) (down n) := by
  refine ⟨gs, ge, List.replicate n none, ⟨?_, .inl rfl, .inr (.inl rfl), .inr (.inr rfl), by omega, by omega, hne, by simp, by simp [down_length], by simp, owns_below hr (fresh _ _), ?_, ?_, ?_, Inv.new n, hn.1, hn.2⟩⟩
  · intro k hk
    rw [World.size_alloc]
    omega
  · rw [down_length]; exact owns_below hs (fresh _ _)
  · intro k b hk
    rw [List.getElem?_replicate] at hk
    split at hk <;> simp at hk
  · intro k hk
    rw [none_at]
    have := (List.getElem?_eq_some_iff.1 hk).1
    simpa using this
theorem row_new (w : World) (n : Nat) (hn : n ≤ 200) : (w.alloc (.cells (madeCells #[.pointer none] n) 77)).ownsRow 0 77 1 (.slice (some ⟨w.heap.size, 0, none⟩) n n) n ((List.replicate n none).map ptr) := by
  have h := World.ownsRow_lit (base := 0) (e := 77) (size := 1) w (madeCells #[.pointer none] n) n (Nat.zero_le _) (by unfold maxLen; omega) (by rw [size_madeCells]; omega)
  rw [toList_madeCells_one] at h
  rw [List.map_replicate]
  exact h
set_option maxHeartbeats 400000 in
theorem new_good (n : Nat) (h : 1 ≤ n ∧ n ≤ 200) (w : World) :
    Calls Try.prog 21 #[.int .i64 n] w fun e w' => ∃ p F, e = .returned (.pointer (some ⟨p, 0, none⟩)) ∧ PoolAt w' F p n (none_ n) (down n) ∧ Below w.heap.size w w' ∧ ∀ k, F k → w.heap.size ≤ k := by
  have hmk := run_make_row' (P := Try.prog) 68 77 (.pointer none) 8 Try.underlying68 infoP rfl .i64 .i64 n (by omega) (by omega)
  have h1 : ¬ (n : Int) < 1 := by omega
  have h2 : ¬ (200 : Int) < n := by omega
  go_enter Try.func21, Try.ntmps21
  go_wp2_with fail
  go_region_with (go_at_call 30; refine (fresh_any n h _).mono ?_; rintro e u ⟨rfl, hs, hb⟩)
  · go_wp2_with fail
    go_ret
    have hs' : u.ownsRow 0 3 1 (.slice (some ⟨w.heap.size + 1, 0, none⟩) n n) n (ints (down n)) := by simpa using hs
    have hb' : Below (w.alloc (.cells (madeCells #[.pointer none] n) 77)).heap.size (w.alloc (.cells (madeCells #[.pointer none] n) 77)) u := ((Below.refl _ (w.alloc (.cells (madeCells #[.pointer none] n) 77))).drew).trans hb
    have hz := hb'.size
    simp at hz
    have hlt := (hs'.lt (w.heap.size + 1) rfl).2
    have hr := owns_below (row_new w n h.2) hb'
    refine ⟨u.heap.size, _, rfl, new_end h (by omega) hlt (by omega) hr hs', ?_, ?_⟩
    · exact later (later (fresh w _) hb') (fresh _ _)
    · intro k hk
      omega
  · go_wp2_with fail
    go_ret
    have hs' : u.ownsRow 0 3 1 (.slice (some ⟨w.heap.size, 0, none⟩) n n) n (ints (down n)) := hs
    have hb' : Below w.heap.size w u := (drewN_below w 1).trans hb
    have hz := hb'.size
    have hlt := (hs'.lt w.heap.size rfl).2
    refine ⟨u.heap.size + 1, fun k => k = u.heap.size + 1 ∨ k = u.heap.size ∨ k = w.heap.size, rfl, ?_, ?_, ?_⟩
    · have := new_end (u := u.alloc (.cells (madeCells #[.pointer none] n) 77)) (gs := u.heap.size) (ge := w.heap.size) h (by simp) (by simp; omega) (by omega) (row_new u n h.2) (owns_below hs' (fresh _ _))
      simpa using this
    · exact later (later hb' (fresh _ _)) (fresh _ _)
    · intro k hk
      omega
theorem new_bad (z : Int) (hz : -9223372036854775808 ≤ z ∧ z ≤ 9223372036854775807) (h : z < 1 ∨ 200 < z) (w : World) :
    Calls Try.prog 21 #[.int .i64 z] w fun e w' => e = .returned (.pointer none) ∧ w' = w := by
  by_cases h1 : z < 1
  · go_enter Try.func21, Try.ntmps21
    go_wp2_with fail
    go_ret
    exact ⟨rfl, rfl⟩
  · have h2 : 200 < z := by omega
    go_enter Try.func21, Try.ntmps21
    go_wp2_with fail
    go_ret
    exact ⟨rfl, rfl⟩
section
variable {w : World} {F : Nat → Prop} {p gs ge n : Nat} {S : List (Option Pk)} {E : List Nat} {bs : List (Option Nat)}
theorem PoolIn.blen (h : PoolIn w F p gs ge n S E bs) : bs.length = n := by have := h.row.1; simpa using this
theorem PoolIn.full (h : PoolIn w F p gs ge n S E bs) {k : Nat} {x : Pk} (hk : S[k]? = some (some x)) : k < n ∧ ∃ b, bs[k]? = some (some b) ∧ F b ∧ b ≠ p ∧ b ≠ gs ∧ b ≠ ge ∧ PkAt w b 0 x := by
  have hlt : k < n := by rw [← h.inv.len]; exact (List.getElem?_eq_some_iff.1 hk).1
  have hb : bs[k]? = some bs[k]! := by
    have : k < bs.length := by rw [h.blen]; exact hlt
    simp [this]
  refine ⟨hlt, ?_⟩
  cases hv : bs[k]! with
  | none =>
    rw [hv] at hb
    have := h.no k hb
    rw [this] at hk; simp at hk
  | some b =>
    rw [hv] at hb
    obtain ⟨h1, h2, h3, h4, y, h5, h6⟩ := h.pk k b hb
    rw [h5] at hk
    simp at hk
    subst hk
    exact ⟨b, hb, h1, h2, h3, h4, h6⟩
theorem PoolIn.empty (h : PoolIn w F p gs ge n S E bs) {k : Nat} (hk : S[k]? = some none) : k < n ∧ bs[k]? = some none := by
  have hlt : k < n := by rw [← h.inv.len]; exact (List.getElem?_eq_some_iff.1 hk).1
  have hb : bs[k]? = some bs[k]! := by
    have : k < bs.length := by rw [h.blen]; exact hlt
    simp [this]
  refine ⟨hlt, ?_⟩
  cases hv : bs[k]! with
  | none => rw [hv] at hb; exact hb
  | some b =>
    rw [hv] at hb
    obtain ⟨h1, h2, h3, h4, y, h5, h6⟩ := h.pk k b hb
    rw [h5] at hk
    simp at hk
theorem PoolIn.slot (h : PoolIn w F p gs ge n S E bs) {k : Nat} {v : Option Nat} (hk : bs[k]? = some v) : w.cell? ⟨gs, k, none⟩ = some (ptr v) := by
  have hlt : k < n := by rw [← h.blen]; exact (List.getElem?_eq_some_iff.1 hk).1
  rw [owns_cells h.row hlt, List.getElem?_map, hk]
  rfl
end
set_option maxHeartbeats 400000 in
theorem has_yes {w : World} {F : Nat → Prop} {p n : Nat} {S : List (Option Pk)} {E : List Nat} (h : PoolAt w F p n S E) {k : Nat} {x : Pk} (hk : S[k]? = some (some x)) :
    Calls Try.prog 34 #[.pointer (some ⟨p, 0, none⟩), .int .i64 k] w fun e w' => e = .returned (.bool true) ∧ w' = w := by
  obtain ⟨gs, ge, bs, h⟩ := h
  have hc0 := h.c0
  obtain ⟨hlt, b, hb, _⟩ := h.full hk
  have hs : w.cell? ⟨gs, k, none⟩ = some (.pointer (some ⟨b, 0, none⟩)) := h.slot hb
  have hn := h.n2
  have h1 : (k : Int) < n := by omega
  clear h hb hk
  go_enter Try.func34, Try.ntmps34
  go_wp2_with fail
  go_ret
  exact ⟨rfl, rfl⟩
set_option maxHeartbeats 400000 in
theorem has_no {w : World} {F : Nat → Prop} {p n : Nat} {S : List (Option Pk)} {E : List Nat} (h : PoolAt w F p n S E) {z : Int} (hz : -9223372036854775808 ≤ z ∧ z ≤ 9223372036854775807) (hk : look S z = none) :
    Calls Try.prog 34 #[.pointer (some ⟨p, 0, none⟩), .int .i64 z] w fun e w' => e = .returned (.bool false) ∧ w' = w := by
  obtain ⟨gs, ge, bs, h⟩ := h
  have hc0 := h.c0
  have hn := h.n2
  have hl := h.inv.len
  rcases look_none hk with h0 | h0 | ⟨k, rfl, h0, h1⟩
  · have h1 : ¬ 0 ≤ z := by omega
    clear h hk
    go_enter Try.func34, Try.ntmps34
    go_wp2_with fail
    go_ret
    exact ⟨rfl, rfl⟩
  · have h1 : 0 ≤ z := by omega
    have h2 : ¬ z < n := by omega
    clear h hk hl h0
    go_enter Try.func34, Try.ntmps34
    go_wp2_with fail
    go_ret
    exact ⟨rfl, rfl⟩
  · obtain ⟨hlt, hb⟩ := h.empty h1
    have hs : w.cell? ⟨gs, k, none⟩ = some (.pointer none) := h.slot hb
    have h2 : (k : Int) < n := by omega
    clear h hk hl h0 h1 hb
    go_enter Try.func34, Try.ntmps34
    go_wp2_with fail
    go_ret
    exact ⟨rfl, rfl⟩
end Go.Proofs.Ytpbeldcaiceakaa
