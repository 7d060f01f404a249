/-
  Contracts and plain facts that the walks lean on (Owns, PoolA, PoolB, PoolC). Conditions: none but those that each states.
-/
import Derived.Test.YtniicgbkeifnjaaGreatDoorQ1
import Derived.Maps.AppendAt
import Derived.Deep.RegionHeld3
namespace Go.Proofs.YtniicgbkeifnjaaGreatDoor.K
open Go.ChangeShapes Go.WideShapes Go.ChangeAt Go.RowKit
set_option linter.unusedVariables false
set_option maxRecDepth 100000
theorem owns_lift {w w' : World} {F : Nat → Prop} {base n size : Nat} {e : TypeId} {a : Option Addr} {cap : Nat} {xs : List Value} (h : w.ownsRow base e size (.slice a n cap) n xs) (k : Sans F w w') (hn : ∀ ad, a = some ad → ¬ F ad.block) : w'.ownsRow base e size (.slice a n cap) n xs := by
  refine ⟨h.1, ?_⟩
  rcases h.2 with h2 | ⟨g, cp, cur, e, hb, hg, r⟩
  · exact .inl h2
  · refine .inr ⟨g, cp, cur, e, hb, ?_, r⟩
    have ha : a = some ⟨g, 0, none⟩ := by simp only [Value.slice.injEq] at e; exact e.1
    have hlt : g < w.heap.size := by
      rcases Nat.lt_or_ge g w.heap.size with h' | h'
      · exact h'
      · simp [Array.getElem?_eq_none h'] at hg
    exact (k.block g hlt (hn _ ha)).trans hg
theorem owns_at {w w' : World} {F : Nat → Prop} {base n size g : Nat} {e : TypeId} {cap : Nat} {xs : List Value} (h : w.ownsRow base e size (.slice (some ⟨g, 0, none⟩) n cap) n xs) (k : Sans F w w') (hn : ¬ F g) : w'.ownsRow base e size (.slice (some ⟨g, 0, none⟩) n cap) n xs :=
  owns_lift h k (fun ad e => by cases e; exact hn)
theorem owns_below {w w' : World} {base n size : Nat} {e : TypeId} {a : Option Addr} {cap : Nat} {xs : List Value} (h : w.ownsRow base e size (.slice a n cap) n xs) (k : Below w.heap.size w w') : w'.ownsRow base e size (.slice a n cap) n xs :=
  owns_lift h (Sans.of_below (F := fun _ => False) k) (fun _ _ e => e)
theorem owns_cells {w : World} {base g cap n : Nat} {e : TypeId} {xs : List Value} (h : w.ownsRow base e 1 (.slice (some ⟨g, 0, none⟩) n cap) n xs) {j : Nat} (hj : j < n) : w.cell? ⟨g, j, none⟩ = xs[j]? := h.cellAt j (by omega)
theorem owns_cut {w : World} {base g cap n m : Nat} {e : TypeId} {xs : List Value} (h : w.ownsRow base e 1 (.slice (some ⟨g, 0, none⟩) n cap) n xs) (hm : m ≤ n) : w.ownsRow base e 1 (.slice (some ⟨g, 0, none⟩) m cap) m (xs.take m) := by
  have hl := h.1
  refine ⟨by rw [List.length_take, hl]; omega, ?_⟩
  rcases h.2 with ⟨e, _⟩ | ⟨g', cp, cur, e, hb, hg, hnc, hcm, hcs, htake⟩
  · cases e
  · simp only [Value.slice.injEq, Option.some.injEq, Addr.mk.injEq, and_true, true_and] at e
    obtain ⟨rfl, rfl⟩ := e
    refine .inr ⟨g, cap, cur, rfl, hb, hg, by omega, hcm, hcs, ?_⟩
    rw [← htake, List.take_take]
    congr 1
    omega
theorem owns_cap {w : World} {base g cap n size : Nat} {e : TypeId} {xs : List Value} (h : w.ownsRow base e size (.slice (some ⟨g, 0, none⟩) n cap) n xs) : n ≤ cap ∧ cap ≤ maxLen := by
  rcases h.2 with ⟨e, _⟩ | ⟨g', cp, cur, e, hb, hg, hnc, hcm, hcs, htake⟩
  · cases e
  · simp only [Value.slice.injEq, Option.some.injEq, Addr.mk.injEq, and_true, true_and] at e
    obtain ⟨rfl, rfl⟩ := e
    exact ⟨hnc, hcm⟩
theorem take_set_snoc {xs : List Value} {k : Nat} (v : Value) (h : k < xs.length) : (xs.set k v).take (k + 1) = xs.take k ++ [v] := by
  rw [List.take_succ_eq_append_getElem (by rw [List.length_set]; exact h), List.getElem_set_self, List.take_set_of_le (by omega)]
theorem drewN_below (w : World) (n : Nat) : Below w.heap.size w (w.drewN n) := ⟨rfl, rfl, rfl, Nat.le_refl _, fun _ _ => rfl⟩
def Grows (F : Nat → Prop) (w : World) (F' : Nat → Prop) (w' : World) : Prop := Sans F w w' ∧ ∀ k, F' k → F k ∨ w.heap.size ≤ k
theorem grows_below (F : Nat → Prop) {w w' : World} (k : Below w.heap.size w w') : Grows F w F w' := ⟨Sans.of_below k, fun k hk => .inl hk⟩
def ints (E : List Nat) : List Value := E.map fun k => Value.int .i64 (k : Nat)
theorem ints_length (E : List Nat) : (ints E).length = E.length := List.length_map _
theorem ints_append (E F : List Nat) : ints E ++ ints F = ints (E ++ F) := (List.map_append ..).symm
theorem ints_at {E : List Nat} {j k : Nat} (h : E[j]? = some k) : (ints E)[j]? = some (Value.int .i64 (k : Nat)) := by
  unfold ints
  rw [List.getElem?_map, h]
  rfl
theorem ints_take (E : List Nat) (j : Nat) : (ints E).take j = ints (E.take j) := (List.map_take ..).symm
theorem infoI : (Tryz.prog.info? 3).map (fun i => (i.zero, i.size, i.bytes)) = some (some (.int .i64 0), 1, 8) := by kernel_rfl
theorem one_cell (w : World) (z : Int) : ∀ (j : Nat) (u : Value), [Value.int .i64 z][j]? = some u → (w.alloc (.cells #[.int .i64 z] 3)).cell? ((⟨w.heap.size, 0, none⟩ : Addr).add j) = some u := by
  intro j u hu
  have hj : j = 0 := by
    have := (List.getElem?_eq_some_iff.1 hu).1
    simp at this
    exact this
  subst hj
  simp at hu
  subst hu
  simp [Addr.add]
theorem one_one (z : Int) : ∀ u ∈ [Value.int .i64 z], u.oneCell' = true := by
  intro u hu
  rw [List.mem_singleton] at hu
  subst hu
  rfl
def blk (a : Option Addr) : Nat → Prop := fun j => ∃ ad, a = some ad ∧ ad.block = j
end Go.Proofs.YtniicgbkeifnjaaGreatDoor.K
namespace Go.Proofs.YtniicgbkeifnjaaGreatDoor.K
open Go.ChangeShapes Go.WideShapes Go.ChangeAt Go.RowKit
set_option linter.unusedVariables false
set_option maxRecDepth 100000
structure Falling (w wr : World) (n k : Nat) : Prop where
  lt : k ≤ n
  bel : Below w.heap.size w wr
  own : ∃ xs, wr.ownsRow 0 3 1 (.slice (some ⟨w.heap.size, 0, none⟩) n n) n xs ∧ xs.take k = ints ((down n).take k)
theorem Falling.next {w wr : World} {n k : Nat} (h : Falling w wr n k) (hk : k < n) : Falling w (wr.setCell ⟨w.heap.size, k, none⟩ (.int .i64 (n - 1 - k : Nat))) n (k + 1) := by
  obtain ⟨xs, hx, ht⟩ := h.own
  refine ⟨hk, h.bel.trans ((Sans.of_set wr ⟨w.heap.size, k, none⟩ (.int .i64 (n - 1 - k : Nat)) (F := fun j => j = w.heap.size) rfl).below h.bel.size (fun j hj => by omega)), _, (hx.stored k _).1, ?_⟩
  have hl := hx.1
  rw [take_set_snoc _ (by omega), ht, List.take_add_one, down_at hk]
  rw [Option.toList_some, ← ints_append]
  rfl
set_option maxHeartbeats 400000 in
theorem fresh_any (n : Nat) (h : 1 ≤ n ∧ n ≤ 200) (w : World) :
    Calls Tryz.prog 157 #[.int .i64 n] w fun e w' => e = .returned (.slice (some ⟨w.heap.size, 0, none⟩) n n) ∧ w'.ownsRow 0 3 1 (.slice (some ⟨w.heap.size, 0, none⟩) n n) n (ints (down n)) ∧ Below w.heap.size w w' := by
  have hmk := run_make_row' (P := Tryz.prog) 238 3 (.int .i64 0) 8 Tryz.underlying238 infoI rfl .i64 .i64 n (by omega) (by omega)
  have HL : Hid (Falling w (w.alloc (.cells (madeCells #[.int .i64 0] n) 3)) n 0) :=
    ⟨Nat.zero_le _, fresh _ _, ⟨_, World.ownsRow_lit w (madeCells #[.int .i64 0] n) n (Nat.zero_le _) (by unfold maxLen; omega) (by rw [size_madeCells]; omega), rfl⟩⟩
  obtain ⟨h1, h2⟩ := h
  go_enter Tryz.func157, Tryz.ntmps157
  go_wp2_with fail
  go_loopw [9] (fun i wr => ∃ k : Nat, i = .int .i64 k ∧ Falling w wr n k) (fun i _ => n - (intOf i).toNat)
  case atStart => exact ⟨0, rfl, HL.out⟩
  case round =>
    obtain ⟨k, rfl, hlay⟩ := hrel
    have hk := hlay.lt
    have HY : Hid (Falling w wr n k) := hlay
    clear hlay
    by_cases hkl : k < n
    · obtain ⟨xs, hx, _⟩ := HY.out.own
      have hxl : xs.length = n := by have := hx.1; omega
      obtain ⟨v, hv⟩ : ∃ v, wr.cell? ⟨w.heap.size, k, none⟩ = some v := ⟨_, (owns_cells hx hkl).trans (List.getElem?_eq_getElem (by omega))⟩
      have hf : wr.frozen? ⟨w.heap.size, k, none⟩ = false := hx.frozenAt k
      have hi2 : (k : Int) < n := by omega
      clear hx hxl
      go_wp2_with fail
      go_roundw
      case rel =>
        refine ⟨k + 1, by go_num, ?_⟩
        have := HY.out.next hkl
        rw [show ((n - 1 - k : Nat) : Int) = (n : Int) - 1 - k by omega] at this
        exact this
      case measure => simp [intOf]; omega
    · obtain rfl : k = n := by omega
      go_wp2_with fail
      go_ret
      obtain ⟨xs, hx, ht⟩ := HY.out.own
      have hxl : xs.length = k := by have := hx.1; omega
      rw [List.take_of_length_le (by omega), List.take_of_length_le (by rw [down_length]; omega)] at ht
      rw [ht] at hx
      exact ⟨rfl, hx, HY.out.bel⟩
set_option maxHeartbeats 400000 in
theorem pop_none (p n g : Nat) (w : World) (hc : w.cell? ⟨p, 1, none⟩ = some (.slice (some ⟨g, 0, none⟩) 0 n)) :
    Calls Tryz.prog 239 #[.pointer (some ⟨p, 1, none⟩)] w fun e w' => e = .returned (.tuple #[.int .i64 0, .bool false]) ∧ w' = w := by
  go_enter Tryz.func239, Tryz.ntmps239
  go_wp2_with fail
  go_ret2
  exact ⟨rfl, rfl⟩
set_option maxHeartbeats 400000 in
theorem pop_some (p n g k m : Nat) (w : World) (hc : w.cell? ⟨p, 1, none⟩ = some (.slice (some ⟨g, 0, none⟩) (m + 1) n)) (hf : w.frozen? ⟨p, 1, none⟩ = false) (hk : w.cell? ⟨g, m, none⟩ = some (.int .i64 k)) (hm : m < n) (hn : n ≤ 200) :
    Calls Tryz.prog 239 #[.pointer (some ⟨p, 1, none⟩)] w fun e w' => e = .returned (.tuple #[.int .i64 k, .bool true]) ∧ w' = w.setCell ⟨p, 1, none⟩ (.slice (some ⟨g, 0, none⟩) m n) := by
  have h1 : ¬ ((m : Int) + 1 - 1 < 0) := by omega
  have h2 : (m : Int) < (m : Int) + 1 := by omega
  have h3 : (m : Int) ≤ n := by omega
  go_enter Tryz.func239, Tryz.ntmps239
  go_wp2_with fail
  go_ret2
  exact ⟨rfl, rfl⟩
theorem push_end {w u : World} {p g m n : Nat} {v : Value} {o : Obj} {xs ys : List Value} (hgp : g ≠ p) (hp : p < w.heap.size) (h : u.ownsRow 0 3 1 (.slice (some ⟨g, 0, none⟩) m n) m ys) (hg : (w.alloc o).grownBy u (some g)) (hc : u.cell? ⟨p, 1, none⟩ = some v) :
    (u.setCell ⟨p, 1, none⟩ (.slice (some ⟨g, 0, none⟩) m n)).ownsRow 0 3 1 (.slice (some ⟨g, 0, none⟩) m n) m ys ∧ Sans (fun k => k = p ∨ k = g) w (u.setCell ⟨p, 1, none⟩ (.slice (some ⟨g, 0, none⟩) m n)) ∧ (u.setCell ⟨p, 1, none⟩ (.slice (some ⟨g, 0, none⟩) m n)).cell? ⟨p, 1, none⟩ = some (.slice (some ⟨g, 0, none⟩) m n) ∧ (u.setCell ⟨p, 1, none⟩ (.slice (some ⟨g, 0, none⟩) m n)).cell? ⟨p, 0, none⟩ = w.cell? ⟨p, 0, none⟩ ∧ (u.setCell ⟨p, 1, none⟩ (.slice (some ⟨g, 0, none⟩) m n)).frozen? ⟨p, 1, none⟩ = w.frozen? ⟨p, 1, none⟩ := by
  have S1 : Sans (fun k => k = g) w u := (Sans.alloc w o).then (Sans.of_grown hg (fun k e => by cases e; rfl))
  refine ⟨owns_at h (Sans.of_set u ⟨p, 1, none⟩ _ (F := fun k => k = p) rfl) hgp, (S1.mono (fun k e => .inr e)).then (Sans.of_set u ⟨p, 1, none⟩ _ (.inl rfl)), World.cell?_setCell_same _ _ _ hc, ?_, ?_⟩
  · rw [World.cell?_setCell_other]
    · exact S1.cell (p := ⟨p, 0, none⟩) hp (fun e => hgp e.symm)
    · simp
  · rw [World.frozen?_setCell]
    exact S1.frozen (p := ⟨p, 1, none⟩) hp (fun e => hgp e.symm)
set_option maxHeartbeats 400000 in
theorem push_any (p n g k m : Nat) (E : List Nat) (w : World) (hc : w.cell? ⟨p, 1, none⟩ = some (.slice (some ⟨g, 0, none⟩) m n)) (hf : w.frozen? ⟨p, 1, none⟩ = false) (ho : w.ownsRow 0 3 1 (.slice (some ⟨g, 0, none⟩) m n) m (ints E)) (hm : m < n) (hgp : g ≠ p) :
    Calls Tryz.prog 254 #[.pointer (some ⟨p, 1, none⟩), .int .i64 k] w fun e w' => e = .returned (.tuple #[]) ∧ w'.ownsRow 0 3 1 (.slice (some ⟨g, 0, none⟩) (m + 1) n) (m + 1) (ints (E ++ [k])) ∧ Sans (fun k => k = p ∨ k = g) w w' ∧ w'.cell? ⟨p, 1, none⟩ = some (.slice (some ⟨g, 0, none⟩) (m + 1) n) ∧ w'.cell? ⟨p, 0, none⟩ = w.cell? ⟨p, 0, none⟩ ∧ w'.frozen? ⟨p, 1, none⟩ = w.frozen? ⟨p, 1, none⟩ := by
  obtain ⟨i0, hi0, hz0, hz1, hz2⟩ := info_parts infoI
  have HO : Hid (w.ownsRow 0 3 1 (.slice (some ⟨g, 0, none⟩) m n) m (ints E)) := ho
  have hp : p < w.heap.size := cell_lt hc
  clear ho
  go_enter Tryz.func254, Tryz.ntmps254
  go_wp2_with (at_builtin; refine wpList_append_fits _ rfl _ _ 238 rfl 0 3 i0 1 Tryz.underlying238 hi0 hz1 g m n (ints E) rfl (HO.out.alloc _) _ 1 1 [.int .i64 k] rfl rfl (one_cell w k) (one_one k) (by omega) ?_; intro u hown hg; have hcu : u.cell? ⟨p, 1, none⟩ = some (.slice (some ⟨g, 0, none⟩) m n) := hg.cell (a := ⟨p, 1, none⟩) (((fresh w _).cell (p := ⟨p, 1, none⟩) hp).trans hc) (fun e => by cases e; exact hgp rfl); have hfu : u.frozen? ⟨p, 1, none⟩ = false := ((Sans.of_grown (F := fun k => k = g) hg (fun k e => by cases e; rfl)).frozen (p := ⟨p, 1, none⟩) (by simp; omega) (fun e => hgp e.symm)).trans (((fresh w _).frozen (p := ⟨p, 1, none⟩) hp).trans hf))
  go_end0
  have := push_end (xs := []) hgp hp hown hg hcu
  rw [show ints E ++ [Value.int .i64 (k : Nat)] = ints (E ++ [k]) from ints_append E [k]] at this
  exact ⟨rfl, this⟩
end Go.Proofs.YtniicgbkeifnjaaGreatDoor.K
namespace Go.Proofs.YtniicgbkeifnjaaGreatDoor.K
open Go.ChangeShapes Go.WideShapes Go.ChangeAt Go.RowKit
set_option linter.unusedVariables false
set_option maxRecDepth 100000
def ptr : Option Nat → Value
  | none => .pointer none
  | some b => .pointer (some ⟨b, 0, none⟩)
structure PoolIn (w : World) (F : Nat → Prop) (p gs ge n : Nat) (S : List (Option Pk)) (E : List Nat) (bs : List (Option Nat)) : Prop where
  foot : ∀ k, F k → k < w.heap.size
  fp : F p
  fg : F gs
  fe : F ge
  gp : gs ≠ p
  ep : ge ≠ p
  eg : ge ≠ gs
  c0 : w.cell? ⟨p, 0, none⟩ = some (.slice (some ⟨gs, 0, none⟩) n n)
  c1 : w.cell? ⟨p, 1, none⟩ = some (.slice (some ⟨ge, 0, none⟩) E.length n)
  f1 : w.frozen? ⟨p, 1, none⟩ = false
  row : w.ownsRow 0 257 1 (.slice (some ⟨gs, 0, none⟩) n n) n (bs.map ptr)
  stk : w.ownsRow 0 3 1 (.slice (some ⟨ge, 0, none⟩) E.length n) E.length (ints E)
  pk : ∀ (k b : Nat), bs[k]? = some (some b) → F b ∧ b ≠ p ∧ b ≠ gs ∧ b ≠ ge ∧ ∃ x, S[k]? = some (some x) ∧ PkAt w b 0 x
  no : ∀ k : Nat, bs[k]? = some none → S[k]? = some none
  inv : Inv n S E
  n1 : 1 ≤ n
  n2 : n ≤ 200
def PoolAt (w : World) (F : Nat → Prop) (p n : Nat) (S : List (Option Pk)) (E : List Nat) : Prop := ∃ gs ge bs, PoolIn w F p gs ge n S E bs
theorem PoolIn.sans {w w' : World} {F G : Nat → Prop} {p gs ge n : Nat} {S : List (Option Pk)} {E : List Nat} {bs : List (Option Nat)} (h : PoolIn w F p gs ge n S E bs) (k : Sans G w w') (hd : ∀ k, F k → ¬ G k) : PoolIn w' F p gs ge n S E bs := by
  have hp := h.foot p h.fp
  have hn := hd p h.fp
  exact ⟨fun j hj => Nat.lt_of_lt_of_le (h.foot j hj) k.size, h.fp, h.fg, h.fe, h.gp, h.ep, h.eg, (k.cell (p := ⟨p, 0, none⟩) hp hn).trans h.c0, (k.cell (p := ⟨p, 1, none⟩) hp hn).trans h.c1, (k.frozen (p := ⟨p, 1, none⟩) hp hn).trans h.f1,
    owns_at h.row k (hd _ h.fg), owns_at h.stk k (hd _ h.fe),
    fun j b hj => by obtain ⟨h1, h2, h3, h4, x, h5, h6⟩ := h.pk j b hj; exact ⟨h1, h2, h3, h4, x, h5, h6.sans k (hd _ h1)⟩, h.no, h.inv, h.n1, h.n2⟩
theorem PoolAt.sans {w w' : World} {F G : Nat → Prop} {p n : Nat} {S : List (Option Pk)} {E : List Nat} (h : PoolAt w F p n S E) (k : Sans G w w') (hd : ∀ k, F k → ¬ G k) : PoolAt w' F p n S E := by
  obtain ⟨gs, ge, bs, h⟩ := h
  exact ⟨gs, ge, bs, h.sans k hd⟩
theorem PoolAt.below {w w' : World} {F : Nat → Prop} {p n : Nat} {S : List (Option Pk)} {E : List Nat} (h : PoolAt w F p n S E) (k : Below w.heap.size w w') : PoolAt w' F p n S E :=
  h.sans (G := fun _ => False) (Sans.of_below k) (fun _ _ e => e)
theorem PoolAt.inv {w : World} {F : Nat → Prop} {p n : Nat} {S : List (Option Pk)} {E : List Nat} (h : PoolAt w F p n S E) : Inv n S E := by
  obtain ⟨gs, ge, bs, h⟩ := h; exact h.inv
theorem PoolAt.foot {w : World} {F : Nat → Prop} {p n : Nat} {S : List (Option Pk)} {E : List Nat} (h : PoolAt w F p n S E) : ∀ k, F k → k < w.heap.size := by
  obtain ⟨gs, ge, bs, h⟩ := h; exact h.foot
theorem infoP : (Tryz.prog.info? 257).map (fun i => (i.zero, i.size, i.bytes)) = some (some (.pointer none), 1, 8) := by kernel_rfl
theorem new_end {u : World} {gs ge n : Nat} (hn : 1 ≤ n ∧ n ≤ 200) (hg : gs < u.heap.size) (he : ge < u.heap.size) (hne : ge ≠ gs) (hr : u.ownsRow 0 257 1 (.slice (some ⟨gs, 0, none⟩) n n) n ((List.replicate n none).map ptr)) (hs : u.ownsRow 0 3 1 (.slice (some ⟨ge, 0, none⟩) n n) n (ints (down n))) :
    PoolAt (u.alloc (.cells #[.slice (some ⟨gs, 0, none⟩) n n, .slice (some ⟨ge, 0, none⟩) n n] 241)) (fun k => k = u.heap.size ∨ k = gs ∨ k = ge) u.heap.size n (none_ n) (down n) := by
  refine ⟨gs, ge, List.replicate n none, ⟨?_, .inl rfl, .inr (.inl rfl), .inr (.inr rfl), by omega, by omega, hne, by simp, by simp [down_length], by simp, owns_below hr (fresh _ _), ?_, ?_, ?_, Inv.new n, hn.1, hn.2⟩⟩
  · intro k hk
    rw [World.size_alloc]
    omega
  · rw [down_length]; exact owns_below hs (fresh _ _)
  · intro k b hk
    rw [List.getElem?_replicate] at hk
    split at hk <;> simp at hk
  · intro k hk
    rw [none_at]
    have := (List.getElem?_eq_some_iff.1 hk).1
    simpa using this
theorem row_new (w : World) (n : Nat) (hn : n ≤ 200) : (w.alloc (.cells (madeCells #[.pointer none] n) 257)).ownsRow 0 257 1 (.slice (some ⟨w.heap.size, 0, none⟩) n n) n ((List.replicate n none).map ptr) := by
  have h := World.ownsRow_lit (base := 0) (e := 257) (size := 1) w (madeCells #[.pointer none] n) n (Nat.zero_le _) (by unfold maxLen; omega) (by rw [size_madeCells]; omega)
  rw [toList_madeCells_one] at h
  rw [List.map_replicate]
  exact h
set_option maxHeartbeats 400000 in
theorem new_good (n : Nat) (h : 1 ≤ n ∧ n ≤ 200) (w : World) :
    Calls Tryz.prog 96 #[.int .i64 n] w fun e w' => ∃ p F, e = .returned (.pointer (some ⟨p, 0, none⟩)) ∧ PoolAt w' F p n (none_ n) (down n) ∧ Below w.heap.size w w' ∧ ∀ k, F k → w.heap.size ≤ k := by
  have hmk := run_make_row' (P := Tryz.prog) 237 257 (.pointer none) 8 Tryz.underlying237 infoP rfl .i64 .i64 n (by omega) (by omega)
  have h1 : ¬ (n : Int) < 1 := by omega
  have h2 : ¬ (200 : Int) < n := by omega
  go_enter Tryz.func96, Tryz.ntmps96
  go_wp2_with fail
  go_region_with (go_at_call 157; refine (fresh_any n h _).mono ?_; rintro e u ⟨rfl, hs, hb⟩)
  · go_wp2_with fail
    go_ret
    have hs' : u.ownsRow 0 3 1 (.slice (some ⟨w.heap.size + 1, 0, none⟩) n n) n (ints (down n)) := by simpa using hs
    have hb' : Below (w.alloc (.cells (madeCells #[.pointer none] n) 257)).heap.size (w.alloc (.cells (madeCells #[.pointer none] n) 257)) u := ((Below.refl _ (w.alloc (.cells (madeCells #[.pointer none] n) 257))).drew).trans hb
    have hz := hb'.size
    simp at hz
    have hlt := (hs'.lt (w.heap.size + 1) rfl).2
    have hr := owns_below (row_new w n h.2) hb'
    refine ⟨u.heap.size, _, rfl, new_end h (by omega) hlt (by omega) hr hs', ?_, ?_⟩
    · exact later (later (fresh w _) hb') (fresh _ _)
    · intro k hk
      omega
  · go_wp2_with fail
    go_ret
    have hs' : u.ownsRow 0 3 1 (.slice (some ⟨w.heap.size, 0, none⟩) n n) n (ints (down n)) := hs
    have hb' : Below w.heap.size w u := (drewN_below w 1).trans hb
    have hz := hb'.size
    have hlt := (hs'.lt w.heap.size rfl).2
    refine ⟨u.heap.size + 1, fun k => k = u.heap.size + 1 ∨ k = u.heap.size ∨ k = w.heap.size, rfl, ?_, ?_, ?_⟩
    · have := new_end (u := u.alloc (.cells (madeCells #[.pointer none] n) 257)) (gs := u.heap.size) (ge := w.heap.size) h (by simp) (by simp; omega) (by omega) (row_new u n h.2) (owns_below hs' (fresh _ _))
      simpa using this
    · exact later (later hb' (fresh _ _)) (fresh _ _)
    · intro k hk
      omega
section
variable {w : World} {F : Nat → Prop} {p gs ge n : Nat} {S : List (Option Pk)} {E : List Nat} {bs : List (Option Nat)}
theorem PoolIn.blen (h : PoolIn w F p gs ge n S E bs) : bs.length = n := by have := h.row.1; simpa using this
theorem PoolIn.full (h : PoolIn w F p gs ge n S E bs) {k : Nat} {x : Pk} (hk : S[k]? = some (some x)) : k < n ∧ ∃ b, bs[k]? = some (some b) ∧ F b ∧ b ≠ p ∧ b ≠ gs ∧ b ≠ ge ∧ PkAt w b 0 x := by
  have hlt : k < n := by rw [← h.inv.len]; exact (List.getElem?_eq_some_iff.1 hk).1
  have hb : bs[k]? = some bs[k]! := by
    have : k < bs.length := by rw [h.blen]; exact hlt
    simp [this]
  refine ⟨hlt, ?_⟩
  cases hv : bs[k]! with
  | none =>
    rw [hv] at hb
    have := h.no k hb
    rw [this] at hk; simp at hk
  | some b =>
    rw [hv] at hb
    obtain ⟨h1, h2, h3, h4, y, h5, h6⟩ := h.pk k b hb
    rw [h5] at hk
    simp at hk
    subst hk
    exact ⟨b, hb, h1, h2, h3, h4, h6⟩
theorem PoolIn.empty (h : PoolIn w F p gs ge n S E bs) {k : Nat} (hk : S[k]? = some none) : k < n ∧ bs[k]? = some none := by
  have hlt : k < n := by rw [← h.inv.len]; exact (List.getElem?_eq_some_iff.1 hk).1
  have hb : bs[k]? = some bs[k]! := by
    have : k < bs.length := by rw [h.blen]; exact hlt
    simp [this]
  refine ⟨hlt, ?_⟩
  cases hv : bs[k]! with
  | none => rw [hv] at hb; exact hb
  | some b =>
    rw [hv] at hb
    obtain ⟨h1, h2, h3, h4, y, h5, h6⟩ := h.pk k b hb
    rw [h5] at hk
    simp at hk
theorem PoolIn.slot (h : PoolIn w F p gs ge n S E bs) {k : Nat} {v : Option Nat} (hk : bs[k]? = some v) : w.cell? ⟨gs, k, none⟩ = some (ptr v) := by
  have hlt : k < n := by rw [← h.blen]; exact (List.getElem?_eq_some_iff.1 hk).1
  rw [owns_cells h.row hlt, List.getElem?_map, hk]
  rfl
end
set_option maxHeartbeats 400000 in
theorem has_yes {w : World} {F : Nat → Prop} {p n : Nat} {S : List (Option Pk)} {E : List Nat} (h : PoolAt w F p n S E) {k : Nat} {x : Pk} (hk : S[k]? = some (some x)) :
    Calls Tryz.prog 184 #[.pointer (some ⟨p, 0, none⟩), .int .i64 k] w fun e w' => e = .returned (.bool true) ∧ w' = w := by
  obtain ⟨gs, ge, bs, h⟩ := h
  have hc0 := h.c0
  obtain ⟨hlt, b, hb, _⟩ := h.full hk
  have hs : w.cell? ⟨gs, k, none⟩ = some (.pointer (some ⟨b, 0, none⟩)) := h.slot hb
  have hn := h.n2
  have h1 : (k : Int) < n := by omega
  clear h hb hk
  go_enter Tryz.func184, Tryz.ntmps184
  go_wp2_with fail
  go_ret
  exact ⟨rfl, rfl⟩
end Go.Proofs.YtniicgbkeifnjaaGreatDoor.K
namespace Go.Proofs.YtniicgbkeifnjaaGreatDoor.K
open Go.ChangeShapes Go.WideShapes Go.ChangeAt Go.RowKit
set_option linter.unusedVariables false
set_option maxRecDepth 100000
set_option maxHeartbeats 400000 in
theorem get_yes {w : World} {F : Nat → Prop} {p n : Nat} {S : List (Option Pk)} {E : List Nat} (h : PoolAt w F p n S E) {k : Nat} {x : Pk} (hk : S[k]? = some (some x)) :
    Calls Tryz.prog 120 #[.pointer (some ⟨p, 0, none⟩), .int .i64 k] w fun e w' => e = .returned (.tuple #[.agg #[.int .i64 x.s, .int .i64 x.d, .int .i64 x.l, .int .u32 x.b], .bool true]) ∧ Below w.heap.size w w' := by
  have HR : Hid (PoolAt w F p n S E ∧ S[k]? = some (some x)) := ⟨h, hk⟩
  obtain ⟨gs, ge, bs, h⟩ := h
  have hp := h.foot p h.fp
  have hg := h.foot gs h.fg
  obtain ⟨hlt, b, hb, hFb, _, _, _, hpk⟩ := h.full hk
  have hbl := h.foot b hFb
  have hc0 : ∀ o, (w.alloc o).cell? ⟨p, 0, none⟩ = some (.slice (some ⟨gs, 0, none⟩) n n) := fun o => ((fresh w o).cell (p := ⟨p, 0, none⟩) hp).trans h.c0
  have hs : ∀ o, (w.alloc o).cell? ⟨gs, k, none⟩ = some (.pointer (some ⟨b, 0, none⟩)) := fun o => ((fresh w o).cell (p := ⟨gs, k, none⟩) hg).trans (h.slot hb)
  have h0 : ∀ o, (w.alloc o).cell? ⟨b, 0, none⟩ = some (.int .i64 x.s) := fun o => ((fresh w o).cell (p := ⟨b, 0, none⟩) hbl).trans hpk.1
  have h1 : ∀ o, (w.alloc o).cell? ⟨b, 1, none⟩ = some (.int .i64 x.d) := fun o => ((fresh w o).cell (p := ⟨b, 1, none⟩) hbl).trans hpk.2.1
  have h2 : ∀ o, (w.alloc o).cell? ⟨b, 2, none⟩ = some (.int .i64 x.l) := fun o => ((fresh w o).cell (p := ⟨b, 2, none⟩) hbl).trans hpk.2.2.1
  have h3 : ∀ o, (w.alloc o).cell? ⟨b, 3, none⟩ = some (.int .u32 x.b) := fun o => ((fresh w o).cell (p := ⟨b, 3, none⟩) hbl).trans hpk.2.2.2
  have hlt2 : (k : Int) < n := by omega
  have hn := h.n2
  clear h hk hpk
  go_enter Tryz.func120, Tryz.ntmps120
  go_wp2_with fail
  refine (has_yes (HR.out.1.below (fresh w _)) HR.out.2).mono ?_
  rintro e w1 ⟨rfl, rfl⟩
  go_wp2_with fail
  exact bodyPost_ret (v := .tuple #[.agg #[.int .i64 x.s, .int .i64 x.d, .int .i64 x.l, .int .u32 x.b], .bool true]) (by simp [results, Tryz.results120, go_sem]) rfl ⟨rfl, fresh _ _⟩
theorem ptr_set (bs : List (Option Nat)) (k : Nat) (v : Option Nat) : (bs.map ptr).set k (ptr v) = (bs.set k v).map ptr := (List.map_set ..).symm
set_option maxHeartbeats 400000 in
theorem drop_yes {w : World} {F : Nat → Prop} {p n : Nat} {S : List (Option Pk)} {E : List Nat} (h : PoolAt w F p n S E) {k : Nat} {x : Pk} (hk : S[k]? = some (some x)) :
    Calls Tryz.prog 246 #[.pointer (some ⟨p, 0, none⟩), .int .i64 k] w fun e w' => e = .returned (.bool true) ∧ PoolAt w' F p n (S.set k none) (E ++ [k]) ∧ Sans F w w' := by
  have HR : Hid (PoolAt w F p n S E ∧ S[k]? = some (some x)) := ⟨h, hk⟩
  obtain ⟨gs, ge, bs, h⟩ := h
  have HI : Hid (PoolIn w F p gs ge n S E bs) := h
  have hc0 := h.c0
  have hn := h.n2
  obtain ⟨hlt, b, hb, hFb, _, _, _, hpk⟩ := h.full hk
  have hs : w.cell? ⟨gs, k, none⟩ = some (.pointer (some ⟨b, 0, none⟩)) := h.slot hb
  have hf : w.frozen? ⟨gs, k, none⟩ = false := h.row.frozenAt k
  have hlt2 : (k : Int) < n := by omega
  have hgp := h.gp
  clear h hk hpk hb
  go_enter Tryz.func246, Tryz.ntmps246
  go_wp2_with fail
  refine (has_yes HR.out.1 HR.out.2).mono ?_
  rintro e w1 ⟨rfl, rfl⟩
  go_wp2_with fail
  have S1 : Sans (fun j => j = gs) w1 (w1.setCell ⟨gs, k, none⟩ (.pointer none)) := Sans.of_set w1 ⟨gs, k, none⟩ _ rfl
  have hpl := HI.out.foot p HI.out.fp
  refine (push_any p n ge k E.length E _ ((S1.cell (p := ⟨p, 1, none⟩) hpl (fun e => hgp e.symm)).trans HI.out.c1) ((S1.frozen (p := ⟨p, 1, none⟩) hpl (fun e => hgp e.symm)).trans HI.out.f1) (owns_at HI.out.stk S1 HI.out.eg) (HI.out.inv.room HR.out.2) HI.out.ep).mono ?_
  rintro e w2 ⟨rfl, ho, S2, q1, q0, qf⟩
  go_wp2_with fail
  go_ret
  have h := HI.out
  have SS : Sans F w1 w2 := (S1.mono (fun j e => by rw [e]; exact h.fg)).then (S2.mono (fun j e => e.elim (fun e => by rw [e]; exact h.fp) (fun e => by rw [e]; exact h.fe)))
  have hrow : w2.ownsRow 0 257 1 (.slice (some ⟨gs, 0, none⟩) n n) n ((bs.set k none).map ptr) := by
    have := (h.row.stored k (.pointer none)).1
    rw [show (Value.pointer none) = ptr none from rfl, ptr_set] at this
    exact owns_at this S2 (fun e => e.elim (fun e => h.gp e) (fun e => h.eg e.symm))
  refine ⟨rfl, ⟨gs, ge, bs.set k none, ⟨fun j hj => Nat.lt_of_lt_of_le (h.foot j hj) SS.size, h.fp, h.fg, h.fe, h.gp, h.ep, h.eg, ?_, ?_, ?_, hrow, ?_, ?_, ?_, h.inv.drop HR.out.2, h.n1, h.n2⟩⟩, SS⟩
  · exact q0.trans ((S1.cell (p := ⟨p, 0, none⟩) hpl (fun e => hgp e.symm)).trans h.c0)
  · rw [List.length_append]; exact q1
  · exact qf.trans ((S1.frozen (p := ⟨p, 1, none⟩) hpl (fun e => hgp e.symm)).trans h.f1)
  · rw [List.length_append]; exact ho
  · intro j c hj
    by_cases hjk : j = k
    · subst hjk
      rw [List.getElem?_set_self (by rw [h.blen]; exact hlt)] at hj
      simp at hj
    · rw [List.getElem?_set_ne (fun e => hjk e.symm)] at hj
      obtain ⟨h1, h2, h3, h4, y, h5, h6⟩ := h.pk j c hj
      refine ⟨h1, h2, h3, h4, y, ?_, (h6.sans S1 h3).sans S2 (fun e => e.elim h2 h4)⟩
      rw [List.getElem?_set_ne (fun e => hjk e.symm)]; exact h5
  · intro j hj
    by_cases hjk : j = k
    · subst hjk
      rw [List.getElem?_set_self (by rw [h.inv.len]; exact hlt)]
    · rw [List.getElem?_set_ne (fun e => hjk e.symm)] at hj ⊢
      exact h.no j hj
set_option maxHeartbeats 400000 in
theorem put_none {w : World} {F : Nat → Prop} {p n : Nat} {S : List (Option Pk)} (h : PoolAt w F p n S []) (a b c d : Int) :
    Calls Tryz.prog 208 #[.pointer (some ⟨p, 0, none⟩), .agg #[.int .i64 a, .int .i64 b, .int .i64 c, .int .u32 d]] w fun e w' => e = .returned (.tuple #[.int .i64 0, .bool false]) ∧ Below w.heap.size w w' := by
  obtain ⟨gs, ge, bs, h⟩ := h
  have hp := h.foot p h.fp
  have hc1 : ∀ o, (w.alloc o).cell? ⟨p, 1, none⟩ = some (.slice (some ⟨ge, 0, none⟩) 0 n) := fun o => ((fresh w o).cell (p := ⟨p, 1, none⟩) hp).trans h.c1
  have HC : Hid (∀ o, (w.alloc o).cell? ⟨p, 1, none⟩ = some (.slice (some ⟨ge, 0, none⟩) 0 n)) := hc1
  clear h hc1
  go_enter Tryz.func208, Tryz.ntmps208
  go_wp2_with fail
  refine (pop_none p n ge _ (HC.out _)).mono ?_
  rintro e w1 ⟨rfl, rfl⟩
  go_wp2_with fail
  go_ret2
  exact ⟨rfl, fresh _ _⟩
set_option maxHeartbeats 400000 in
theorem put_some {w : World} {F : Nat → Prop} {p n k : Nat} {S : List (Option Pk)} {E : List Nat} (h : PoolAt w F p n S (E ++ [k])) (a b c d : Int) :
    Calls Tryz.prog 208 #[.pointer (some ⟨p, 0, none⟩), .agg #[.int .i64 a, .int .i64 b, .int .i64 c, .int .u32 d]] w fun e w' => e = .returned (.tuple #[.int .i64 k, .bool true]) ∧ ∃ F', PoolAt w' F' p n (S.set k (some ⟨a, b, c, d⟩)) E ∧ Grows F w F' w' := by
  obtain ⟨gs, ge, bs, h⟩ := h
  have HI : Hid (PoolIn w F p gs ge n S (E ++ [k]) bs) := h
  have hp := h.foot p h.fp
  have hg := h.foot gs h.fg
  have he := h.foot ge h.fe
  have hk0 := (h.inv.mem k).1 (by simp)
  obtain ⟨hlt, hbk⟩ := h.empty hk0
  obtain ⟨W, hW⟩ : ∃ W, W = w.alloc (.cells #[.int .i64 a, .int .i64 b, .int .i64 c, .int .u32 d] 25) := ⟨_, rfl⟩
  have bel : Below w.heap.size w W := by rw [hW]; exact fresh _ _
  have hm : E.length < n := by have := h.inv.le; rw [List.length_append] at this; simp at this; omega
  obtain ⟨m, hml⟩ : ∃ m, E.length = m := ⟨_, rfl⟩
  have hc1 : W.cell? ⟨p, 1, none⟩ = some (.slice (some ⟨ge, 0, none⟩) (m + 1) n) := by
    have := (bel.cell (p := ⟨p, 1, none⟩) hp).trans h.c1
    rw [List.length_append, hml] at this
    exact this
  have hf1 : W.frozen? ⟨p, 1, none⟩ = false := (bel.frozen (p := ⟨p, 1, none⟩) hp).trans h.f1
  have hkc : W.cell? ⟨ge, m, none⟩ = some (.int .i64 (k : Nat)) := by
    refine (bel.cell (p := ⟨ge, m, none⟩) he).trans ?_
    rw [owns_cells h.stk (by rw [List.length_append, hml]; simp)]
    exact ints_at (by rw [← hml]; simp)
  have hc0 : W.cell? ⟨p, 0, none⟩ = some (.slice (some ⟨gs, 0, none⟩) n n) := (bel.cell (p := ⟨p, 0, none⟩) hp).trans h.c0
  have hck : W.cell? ⟨gs, k, none⟩ = some (.pointer none) := (bel.cell (p := ⟨gs, k, none⟩) hg).trans (h.slot hbk)
  have hfk : W.frozen? ⟨gs, k, none⟩ = false := (bel.frozen (p := ⟨gs, k, none⟩) hg).trans (h.row.frozenAt k)
  have hn := h.n2
  have hgp := h.gp
  have hlt2 : (k : Int) < n := by omega
  rw [hml] at hm
  clear h hk0
  go_enter Tryz.func208, Tryz.ntmps208
  go_wp2_with fail
  rw [← hW]
  refine (pop_some p n ge k m W hc1 hf1 hkc hm hn).mono ?_
  rintro e w1 ⟨rfl, hw1⟩
  have S1 : Sans (fun j => j = p) W w1 := by rw [hw1]; exact Sans.of_set W ⟨p, 1, none⟩ _ rfl
  have q0 : w1.cell? ⟨p, 0, none⟩ = some (.slice (some ⟨gs, 0, none⟩) n n) := by
    rw [hw1, World.cell?_setCell_other]
    · exact hc0
    · simp
  have q1 : w1.cell? ⟨p, 1, none⟩ = some (.slice (some ⟨ge, 0, none⟩) m n) := by rw [hw1]; exact World.cell?_setCell_same _ _ _ hc1
  have qf : w1.frozen? ⟨p, 1, none⟩ = false := by rw [hw1, World.frozen?_setCell]; exact hf1
  have hgW : gs < W.heap.size := Nat.lt_of_lt_of_le hg bel.size
  have qk : w1.cell? ⟨gs, k, none⟩ = some (.pointer none) := (S1.cell (p := ⟨gs, k, none⟩) hgW hgp).trans hck
  have qfk : w1.frozen? ⟨gs, k, none⟩ = false := (S1.frozen (p := ⟨gs, k, none⟩) hgW hgp).trans hfk
  have HS : Hid (Sans (fun j => j = p) W w1) := S1
  have HB : Hid (Below w.heap.size w W) := bel
  have HW : Hid (W = w.alloc (.cells #[.int .i64 a, .int .i64 b, .int .i64 c, .int .u32 d] 25)) := hW
  clear hw1 S1 bel hW hc1 hf1 hkc hc0 hck hfk
  go_wp2_with fail
  go_ret2
  have h := HI.out
  have bel := HB.out
  have S1 := HS.out
  have S2 : Sans (fun j => j = gs) w1 (w1.setCell ⟨gs, k, none⟩ (.pointer (some ⟨w.heap.size, 0, none⟩))) := Sans.of_set w1 ⟨gs, k, none⟩ _ rfl
  have S12 : Sans (fun j => j = p ∨ j = gs) w (w1.setCell ⟨gs, k, none⟩ (.pointer (some ⟨w.heap.size, 0, none⟩))) := ((Sans.of_below bel).then (S1.mono (fun j e => .inl e))).then (S2.mono (fun j e => .inr e))
  have SS : Sans F w (w1.setCell ⟨gs, k, none⟩ (.pointer (some ⟨w.heap.size, 0, none⟩))) := S12.mono (fun j e => e.elim (fun e => by rw [e]; exact h.fp) (fun e => by rw [e]; exact h.fg))
  have hWs : W.heap.size = w.heap.size + 1 := by rw [HW.out]; simp
  have hsz : w.heap.size + 1 ≤ (w1.setCell ⟨gs, k, none⟩ (.pointer (some ⟨w.heap.size, 0, none⟩))).heap.size := by have := S1.size; have := S2.size; omega
  have hPk : PkAt (w1.setCell ⟨gs, k, none⟩ (.pointer (some ⟨w.heap.size, 0, none⟩))) w.heap.size 0 ⟨a, b, c, d⟩ := by
    have h0 : PkAt W w.heap.size 0 ⟨a, b, c, d⟩ := by rw [HW.out]; exact ⟨by simp, by simp, by simp, by simp⟩
    exact (h0.sans S1 (by omega)).sans S2 (by omega)
  refine ⟨rfl, fun j => F j ∨ j = w.heap.size, ⟨gs, ge, bs.set k (some w.heap.size), ⟨?_, .inl h.fp, .inl h.fg, .inl h.fe, h.gp, h.ep, h.eg, ?_, ?_, ?_, ?_, ?_, ?_, ?_, h.inv.put _, h.n1, h.n2⟩⟩, SS, ?_⟩
  · rintro j (hj | hj)
    · exact Nat.lt_of_lt_of_le (h.foot j hj) SS.size
    · omega
  · rw [World.cell?_setCell_other]
    · exact q0
    · simp
  · rw [World.cell?_setCell_other, hml]
    · exact q1
    · simp
  · rw [World.frozen?_setCell]; exact qf
  · have hr : w1.ownsRow 0 257 1 (.slice (some ⟨gs, 0, none⟩) n n) n (bs.map ptr) := owns_at (owns_below h.row bel) S1 hgp
    have := (hr.stored k (.pointer (some ⟨w.heap.size, 0, none⟩))).1
    rw [show (Value.pointer (some ⟨w.heap.size, 0, none⟩)) = ptr (some w.heap.size) from rfl, ptr_set] at this
    exact this
  · have h1 := owns_at (owns_at (owns_below h.stk bel) S1 h.ep) S2 h.eg
    have h2 := owns_cut h1 (m := E.length) (by rw [List.length_append]; omega)
    rw [ints_take, List.take_left] at h2
    exact h2
  · intro j t hj
    by_cases hjk : j = k
    · subst hjk
      rw [List.getElem?_set_self (by rw [h.blen]; exact hlt)] at hj
      simp at hj
      subst hj
      exact ⟨.inr rfl, by omega, by omega, by omega, _, List.getElem?_set_self (by rw [h.inv.len]; exact hlt), hPk⟩
    · rw [List.getElem?_set_ne (fun e => hjk e.symm)] at hj
      obtain ⟨h1, h2, h3, h4, y, h5, h6⟩ := h.pk j t hj
      refine ⟨.inl h1, h2, h3, h4, y, ?_, h6.sans S12 (fun e => e.elim h2 h3)⟩
      rw [List.getElem?_set_ne (fun e => hjk e.symm)]; exact h5
  · intro j hj
    by_cases hjk : j = k
    · subst hjk
      rw [List.getElem?_set_self (by rw [h.blen]; exact hlt)] at hj
      simp at hj
    · rw [List.getElem?_set_ne (fun e => hjk e.symm)] at hj ⊢
      exact h.no j hj
  · rintro j (hj | hj)
    · exact .inl hj
    · exact .inr (by omega)
end Go.Proofs.YtniicgbkeifnjaaGreatDoor.K
