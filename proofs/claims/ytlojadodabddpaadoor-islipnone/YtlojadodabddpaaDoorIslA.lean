/-
  Rows of numbers that may be below 0; an arbiter's memory; New, Grants, Accepts of package islip and New of package shunterref10, the laws' same and square. Conditions: none.
-/
import Derived.Test.YtlojadodabddpaaDoorSans2
import Derived.Test.YtlojadodabddpaaDoorIslMath
import Derived.Laws.OwnMore
import Derived.Lib.SliceRun
import Derived.Deep.RegionHeld3
namespace Go.Proofs.YtlojadodabddpaaDoor
open Go.ChangeShapes Go.WideShapes Go.ChangeAt Go.RowKit
set_option linter.unusedVariables false

/-- block g holds n numbers, those that f says, and may be written -/
def Ints (W : World) (g n : Nat) (f : Nat → Int) : Prop := ∀ k, k < n → W.cell? ⟨g, k, none⟩ = some (.int .i64 (f k)) ∧ W.frozen? ⟨g, k, none⟩ = false
theorem Ints.congr {W : World} {g n : Nat} {f h : Nat → Int} (c : Ints W g n f) (e : ∀ k, k < n → f k = h k) : Ints W g n h := fun k hk => by
  rw [← e k hk]
  exact c k hk
theorem Ints.set {W : World} {g n k : Nat} {v : Int} {f : Nat → Int} (c : Ints W g n f) (hk : k < n) : Ints (W.setCell ⟨g, k, none⟩ (.int .i64 v)) g n (fun j => if j = k then v else f j) := fun j hj => by
  refine ⟨?_, by rw [World.frozen?_setCell]; exact (c j hj).2⟩
  show _ = some (Value.int .i64 (if j = k then v else f j))
  by_cases e : j = k
  · subst e
    rw [if_pos rfl]
    exact World.cell?_setCell_same _ _ _ (c j hj).1
  · rw [if_neg e, World.cell?_setCell_other _ _ _ _ (fun h => e (by cases h; rfl))]
    exact (c j hj).1
theorem Ints.made (w : World) (n : Nat) (t : TypeId) : Ints (w.alloc (.cells (madeCells #[.int .i64 0] n) t)) w.heap.size n (fun _ => 0) := fun k hk => by
  have hb := World.alloc_heap_new w (.cells (madeCells #[.int .i64 0] n) t)
  constructor
  · unfold World.cell?
    dsimp only
    rw [hb]
    simp [madeCells, hk, Nat.mod_one]
  · unfold World.frozen?
    dsimp only
    rw [hb]
    simp
theorem Ints.sans {F : Nat → Prop} {W W' : World} {g n : Nat} {f : Nat → Int} (c : Ints W g n f) (k : Sans F W W') (hn : ¬ F g) : Ints W' g n f := fun j hj => by
  have hlt : g < W.heap.size := cell_lt (c j hj).1
  exact ⟨(k.cell (p := ⟨g, j, none⟩) hlt hn).trans (c j hj).1, (k.frozen (p := ⟨g, j, none⟩) hlt hn).trans (c j hj).2⟩
theorem Ints.below {W W' : World} {g n : Nat} {f : Nat → Int} (c : Ints W g n f) (k : Below W.heap.size W W') : Ints W' g n f := c.sans (F := fun _ => False) (Sans.of_below k) (fun e => e)
theorem Ints.lt {W : World} {g n : Nat} {f : Nat → Int} (c : Ints W g n f) (hn : 1 ≤ n) : g < W.heap.size := cell_lt (c 0 hn).1

/-- the slice leads to n numbers, those that f says -/
def Led (w : World) (a : Option Addr) (n : Nat) (f : Nat → Int) : Prop := n = 0 ∨ ∃ b off, a = some ⟨b, off, none⟩ ∧ ∀ i, i < n → w.cell? ⟨b, off + i, none⟩ = some (.int .i64 (f i))
theorem Led.at {w : World} {a : Option Addr} {n : Nat} {f : Nat → Int} (h : Led w a n f) {k : Nat} (hk : k < n) : ∃ b off, a = some ⟨b, off, none⟩ ∧ w.cell? ⟨b, off + k, none⟩ = some (.int .i64 (f k)) := by
  rcases h with h0 | ⟨b, off, ha, hc⟩
  · omega
  · exact ⟨b, off, ha, hc k hk⟩
theorem Led.sans {F : Nat → Prop} {w w' : World} {a : Option Addr} {n : Nat} {f : Nat → Int} (h : Led w a n f) (k : Sans F w w') (hn : ∀ ad, a = some ad → ¬ F ad.block) : Led w' a n f := by
  rcases h with h0 | ⟨b, off, ha, hc⟩
  · exact .inl h0
  · exact .inr ⟨b, off, ha, fun i hi => (k.cell (p := ⟨b, off + i, none⟩) (cell_lt (hc i hi)) (hn ⟨b, off, none⟩ ha)).trans (hc i hi)⟩
theorem Led.below {w w' : World} {a : Option Addr} {n : Nat} {f : Nat → Int} (h : Led w a n f) (k : Below w.heap.size w w') : Led w' a n f := h.sans (F := fun _ => False) (Sans.of_below k) (fun _ _ e => e)
theorem Led.congr {w : World} {a : Option Addr} {n : Nat} {f h : Nat → Int} (c : Led w a n f) (e : ∀ k, k < n → f k = h k) : Led w a n h := by
  rcases c with h0 | ⟨b, off, ha, hc⟩
  · exact .inl h0
  · exact .inr ⟨b, off, ha, fun i hi => by rw [← e i hi]; exact hc i hi⟩
theorem Ints.led {W : World} {g n : Nat} {f : Nat → Int} (c : Ints W g n f) : Led W (some ⟨g, 0, none⟩) n f := .inr ⟨g, 0, rfl, fun i hi => by rw [Nat.zero_add]; exact (c i hi).1⟩

/-- an arbiter of n ports lies at p, its two rows in g and a -/
structure Arb (w : World) (p g a n : Nat) (G A : Nat → Nat) : Prop where
  c0 : w.cell? ⟨p, 0, none⟩ = some (.slice (some ⟨g, 0, none⟩) n n)
  c1 : w.cell? ⟨p, 1, none⟩ = some (.slice (some ⟨a, 0, none⟩) n n)
  gs : Ints w g n (fun k => (G k : Nat))
  ac : Ints w a n (fun k => (A k : Nat))
  pg : p ≠ g
  pa : p ≠ a
  ga : g ≠ a
  n1 : 1 ≤ n
  n2 : n ≤ 16
  gl : ∀ o, o < n → G o < n
  al : ∀ o, o < n → A o < n
theorem Arb.sans {F : Nat → Prop} {w w' : World} {p g a n : Nat} {G A : Nat → Nat} (h : Arb w p g a n G A) (k : Sans F w w') (hp : ¬ F p) (hg : ¬ F g) (ha : ¬ F a) : Arb w' p g a n G A :=
  ⟨(k.cell (p := ⟨p, 0, none⟩) (cell_lt h.c0) hp).trans h.c0, (k.cell (p := ⟨p, 1, none⟩) (cell_lt h.c1) hp).trans h.c1, h.gs.sans k hg, h.ac.sans k ha, h.pg, h.pa, h.ga, h.n1, h.n2, h.gl, h.al⟩
theorem Arb.below {w w' : World} {p g a n : Nat} {G A : Nat → Nat} (h : Arb w p g a n G A) (k : Below w.heap.size w w') : Arb w' p g a n G A := h.sans (F := fun _ => False) (Sans.of_below k) (fun e => e) (fun e => e) (fun e => e)
theorem Arb.lp {w : World} {p g a n : Nat} {G A : Nat → Nat} (h : Arb w p g a n G A) : p < w.heap.size := cell_lt h.c0
theorem Arb.lg {w : World} {p g a n : Nat} {G A : Nat → Nat} (h : Arb w p g a n G A) : g < w.heap.size := h.gs.lt h.n1
theorem Arb.la {w : World} {p g a n : Nat} {G A : Nat → Nat} (h : Arb w p g a n G A) : a < w.heap.size := h.ac.lt h.n1

theorem arb_new {u : World} {g a n : Nat} (t : TypeId) (hn : 1 ≤ n ∧ n ≤ 16) (hg : Ints u g n (fun _ => 0)) (ha : Ints u a n (fun _ => 0)) (hne : g ≠ a) :
    Arb (u.alloc (.cells #[.slice (some ⟨g, 0, none⟩) n n, .slice (some ⟨a, 0, none⟩) n n] t)) u.heap.size g a n (fun _ => 0) (fun _ => 0) := by
  have lg := hg.lt hn.1
  have la := ha.lt hn.1
  exact ⟨by simp, by simp, hg.below (fresh _ _), ha.below (fresh _ _), by omega, by omega, hne, hn.1, hn.2, fun o ho => by omega, fun o ho => by omega⟩
/-- a new arbiter, all of it new memory -/
def Made (w w' : World) (p g a n : Nat) : Prop := Arb w' p g a n (fun _ => 0) (fun _ => 0) ∧ Below w.heap.size w w' ∧ w.heap.size ≤ p ∧ w.heap.size ≤ g ∧ w.heap.size ≤ a
theorem made_one (w : World) (n : Nat) (t s : TypeId) (hn : 1 ≤ n ∧ n ≤ 16) :
    Made w (((w.alloc (.cells (madeCells #[.int .i64 0] n) s)).alloc (.cells (madeCells #[.int .i64 0] n) s)).alloc (.cells #[.slice (some ⟨w.heap.size, 0, none⟩) n n, .slice (some ⟨w.heap.size + 1, 0, none⟩) n n] t)) (w.heap.size + 1 + 1) w.heap.size (w.heap.size + 1) n := by
  have h1 := (Ints.made w n s).below (fresh _ (.cells (madeCells #[.int .i64 0] n) s))
  have h2 := Ints.made (w.alloc (.cells (madeCells #[.int .i64 0] n) s)) n s
  rw [World.size_alloc] at h2
  have h3 := arb_new t hn h1 h2 (by omega)
  rw [World.size_alloc, World.size_alloc] at h3
  exact ⟨h3, later (later (fresh _ _) (fresh _ _)) (fresh _ _), by omega, by omega, by omega⟩
theorem made_two (w : World) (n : Nat) (t s : TypeId) (hn : 1 ≤ n ∧ n ≤ 16) :
    Made w (((w.alloc (.cells (madeCells #[.int .i64 0] n) s)).alloc (.cells (madeCells #[.int .i64 0] n) s)).alloc (.cells #[.slice (some ⟨w.heap.size + 1, 0, none⟩) n n, .slice (some ⟨w.heap.size, 0, none⟩) n n] t)) (w.heap.size + 1 + 1) (w.heap.size + 1) w.heap.size n := by
  have h1 := (Ints.made w n s).below (fresh _ (.cells (madeCells #[.int .i64 0] n) s))
  have h2 := Ints.made (w.alloc (.cells (madeCells #[.int .i64 0] n) s)) n s
  rw [World.size_alloc] at h2
  have h3 := arb_new t hn h2 h1 (by omega)
  rw [World.size_alloc, World.size_alloc] at h3
  exact ⟨h3, later (later (fresh _ _) (fresh _ _)) (fresh _ _), by omega, by omega, by omega⟩
theorem Made.drewN {w w' : World} {p g a n : Nat} (h : Made w w' p g a n) (m : Nat) : Made w (w'.drewN m) p g a n := ⟨h.1.below (drewN_below _ _), later h.2.1 (drewN_below _ _), h.2.2⟩
theorem Made.drew {w w' : World} {p g a n : Nat} (h : Made w w' p g a n) : Made w w'.drew p g a n := ⟨h.1.below (drewN_below _ 1), later h.2.1 (drewN_below _ 1), h.2.2⟩
set_option maxHeartbeats 400000 in
theorem new_good (n : Nat) (h : 1 ≤ n ∧ n ≤ 16) (w : World) :
    Calls Tryd.prog 11 #[.int .i64 (n : Nat)] w fun e w' => ∃ p g a, e = .returned (.pointer (some ⟨p, 0, none⟩)) ∧ Made w w' p g a n := by
  have hmk := run_make_row' (P := Tryd.prog) 25 3 (.int .i64 0) 8 Tryd.underlying25 infoI rfl .i64 .i64 n (by omega) (by omega)
  have h1 : decide ((n : Int) < 1) = false := decide_eq_false (by omega)
  have h2 : decide ((16 : Int) < n) = false := decide_eq_false (by omega)
  go_enter Tryd.func11, Tryd.ntmps11
  go_wp2_with fail
  go_region
  · go_wp2_with fail
    go_ret
    first | exact ⟨_, _, _, rfl, made_one w n _ _ h⟩ | exact ⟨_, _, _, rfl, (made_one w n _ _ h).drew⟩ | exact ⟨_, _, _, rfl, (made_one w n _ _ h).drewN _⟩
  · go_wp2_with fail
    go_ret
    first | exact ⟨_, _, _, rfl, made_two w n _ _ h⟩ | exact ⟨_, _, _, rfl, (made_two w n _ _ h).drew⟩ | exact ⟨_, _, _, rfl, (made_two w n _ _ h).drewN _⟩
theorem new_bad (z : Int) (h : ¬ (1 ≤ z ∧ z ≤ 16)) (w : World) :
    Calls Tryd.prog 11 #[.int .i64 z] w fun e w' => e = .returned (.pointer none) ∧ w' = w := by
  by_cases h1 : z < 1
  · go_enter Tryd.func11, Tryd.ntmps11
    go_wp2_with fail
    go_ret
    exact ⟨rfl, rfl⟩
  · have h2 : 16 < z := by omega
    go_enter Tryd.func11, Tryd.ntmps11
    go_wp2_with fail
    go_ret
    exact ⟨rfl, rfl⟩
set_option maxHeartbeats 400000 in
theorem rnew_good (n : Nat) (h : 1 ≤ n ∧ n ≤ 16) (w : World) :
    Calls Tryd.prog 18 #[.int .i64 (n : Nat)] w fun e w' => ∃ p g a, e = .returned (.pointer (some ⟨p, 0, none⟩)) ∧ Made w w' p g a n := by
  have hmk := run_make_row' (P := Tryd.prog) 25 3 (.int .i64 0) 8 Tryd.underlying25 infoI rfl .i64 .i64 n (by omega) (by omega)
  have h1 : decide ((n : Int) < 1) = false := decide_eq_false (by omega)
  have h2 : decide ((16 : Int) < n) = false := decide_eq_false (by omega)
  go_enter Tryd.func18, Tryd.ntmps18
  go_wp2_with fail
  go_region
  · go_wp2_with fail
    go_ret
    first | exact ⟨_, _, _, rfl, made_one w n _ _ h⟩ | exact ⟨_, _, _, rfl, (made_one w n _ _ h).drew⟩ | exact ⟨_, _, _, rfl, (made_one w n _ _ h).drewN _⟩
  · go_wp2_with fail
    go_ret
    first | exact ⟨_, _, _, rfl, made_two w n _ _ h⟩ | exact ⟨_, _, _, rfl, (made_two w n _ _ h).drew⟩ | exact ⟨_, _, _, rfl, (made_two w n _ _ h).drewN _⟩
theorem rnew_bad (z : Int) (h : ¬ (1 ≤ z ∧ z ≤ 16)) (w : World) :
    Calls Tryd.prog 18 #[.int .i64 z] w fun e w' => e = .returned (.pointer none) ∧ w' = w := by
  by_cases h1 : z < 1
  · go_enter Tryd.func18, Tryd.ntmps18
    go_wp2_with fail
    go_ret
    exact ⟨rfl, rfl⟩
  · have h2 : 16 < z := by omega
    go_enter Tryd.func18, Tryd.ntmps18
    go_wp2_with fail
    go_ret
    exact ⟨rfl, rfl⟩
theorem ports_any {w : World} {p g a n : Nat} {G A : Nat → Nat} (h : Arb w p g a n G A) :
    Calls Tryd.prog 23 #[.pointer (some ⟨p, 0, none⟩)] w fun e w' => e = .returned (.int .i64 (n : Nat)) ∧ w' = w := by
  have hc := h.c0
  clear h
  go_enter Tryd.func23, Tryd.ntmps23
  go_wp2_with fail
  go_ret
  exact ⟨rfl, rfl⟩

/-- numbers as cells -/
def icells (n : Nat) (f : Nat → Int) : List Value := (List.range n).map fun k => Value.int .i64 (f k)
theorem icells_len (n : Nat) (f : Nat → Int) : (icells n f).length = n := by simp [icells]
theorem icells_at {n k : Nat} {f : Nat → Int} (h : k < n) : (icells n f)[k]? = some (.int .i64 (f k)) := by simp [icells, h]
theorem icells_snoc (n : Nat) (f : Nat → Int) : icells n f ++ [.int .i64 (f n)] = icells (n + 1) f := by simp [icells, List.range_succ]
theorem icells_one (n : Nat) (f : Nat → Int) : ∀ u ∈ icells n f, u.oneCell' = true := by
  intro u hu
  obtain ⟨k, _, rfl⟩ := List.mem_map.1 hu
  rfl
/-- a row of the call's own, as numbers that may be written -/
theorem ints_of_owns {w : World} {base n : Nat} {e : TypeId} {v : Value} {f : Nat → Int} (hn : 1 ≤ n) (h : w.ownsRow base e 1 v n (icells n f)) : ∃ b cap, v = .slice (some ⟨b, 0, none⟩) n cap ∧ base ≤ b ∧ Ints w b n f ∧ n ≤ cap ∧ cap ≤ maxLen := by
  rcases h.2 with ⟨hv, h0⟩ | ⟨g, cap, cur, hv, hb, hg, hnc, hcm, hcs, htake⟩
  · omega
  · subst hv
    refine ⟨g, cap, rfl, hb, fun k hk => ⟨?_, h.frozenAt k⟩, hnc, hcm⟩
    rw [h.cellAt k (by omega), icells_at hk]
set_option maxRecDepth 100000 in
set_option maxHeartbeats 1000000 in
theorem clone_any {w : World} {g n : Nat} {f : Nat → Int} (hn : 1 ≤ n ∧ n ≤ 16) (h : Ints w g n f) :
    Calls Tryd.prog 22 #[.slice (some ⟨g, 0, none⟩) n n] w fun e w' => ∃ b cap, e = .returned (.slice (some ⟨b, 0, none⟩) n cap) ∧ w.heap.size ≤ b ∧ Ints w' b n f ∧ Below w.heap.size w w' := by
  obtain ⟨i0, hi, hz0, hz1, hz2⟩ := info_parts infoI
  have q29 : ∀ (w : World) (a : Option Addr) (n c n' c' : Nat), (binOp .eql 25 (.slice a n c) (.slice none n' c')).run Tryd.prog w = .ok (.bool a.isNone) w := fun w a n c n' c' => Lib.run_eql_slice_nil w _ _ a n c n' c' Tryd.underlying25
  have HI : Hid (Ints w g n f) := h
  clear h
  go_enter Tryd.func22, Tryd.ntmps22
  have HO : Hid ((w.alloc (.cells #[] 3)).ownsRow w.heap.size 3 1 (.slice (some ⟨w.heap.size, 0, none⟩) 0 0) 0 []) := World.ownsRow_made (base := w.heap.size) (e := 3) (size := 1) w #[] 0 (Nat.le_refl _) (by unfold maxLen; omega) (by simp)
  have HC : Hid (∀ j u, (icells n f)[j]? = some u → (w.alloc (.cells #[] 3)).cell? ((⟨g, 0, none⟩ : Addr).add j) = some u) := by
    intro j u hu
    have hj : j < n := by have := (List.getElem?_eq_some_iff.1 hu).1; rwa [icells_len] at this
    rw [icells_at hj] at hu
    rw [add_lit, Nat.zero_add, ← hu]
    exact (HI.out.below (fresh _ _) j hj).1
  go_wp2_with (at_builtin; refine wpList_append_own _ rfl _ _ 25 rfl w.heap.size 3 i0 _ 1 8 Tryd.underlying25 hi hz0 hz1 hz2 rfl (by decide) (.slice (some ⟨w.heap.size, 0, none⟩) 0 0) 0 [] rfl HO.out ⟨g, 0, none⟩ n n (icells n f) rfl (by rw [icells_len]; omega) HC.out (icells_one _ _) (by unfold maxLen; omega) (by omega) (by simp) ?_; intro v' u2 hown hg hnil)
  rw [Nat.zero_add, List.nil_append] at hown
  obtain ⟨b, cap, rfl, hb, hI, _, _⟩ := ints_of_owns hn.1 hown
  go_wp2_with fail
  go_ret
  exact ⟨b, cap, rfl, hb, hI, (fresh w _).grown hg (by simp) (fun j e => by simp [Value.ownBlock] at e; omega)⟩
theorem grants_any {w : World} {p g a n : Nat} {G A : Nat → Nat} (h : Arb w p g a n G A) :
    Calls Tryd.prog 13 #[.pointer (some ⟨p, 0, none⟩)] w fun e w' => ∃ b cap, e = .returned (.slice (some ⟨b, 0, none⟩) n cap) ∧ w.heap.size ≤ b ∧ Ints w' b n (fun k => (G k : Nat)) ∧ Below w.heap.size w w' := by
  have hc := h.c0
  go_enter Tryd.func13, Tryd.ntmps13
  go_wp2_with fail
  refine (clone_any ⟨h.n1, h.n2⟩ h.gs).mono ?_
  rintro e w1 ⟨b, cap, rfl, hb, hI, hB⟩
  go_wp2_with fail
  go_ret
  exact ⟨b, cap, rfl, hb, hI, hB⟩
theorem accepts_any {w : World} {p g a n : Nat} {G A : Nat → Nat} (h : Arb w p g a n G A) :
    Calls Tryd.prog 14 #[.pointer (some ⟨p, 0, none⟩)] w fun e w' => ∃ b cap, e = .returned (.slice (some ⟨b, 0, none⟩) n cap) ∧ w.heap.size ≤ b ∧ Ints w' b n (fun k => (A k : Nat)) ∧ Below w.heap.size w w' := by
  have hc := h.c1
  go_enter Tryd.func14, Tryd.ntmps14
  go_wp2_with fail
  refine (clone_any ⟨h.n1, h.n2⟩ h.ac).mono ?_
  rintro e w1 ⟨b, cap, rfl, hb, hI, hB⟩
  go_wp2_with fail
  go_ret
  exact ⟨b, cap, rfl, hb, hI, hB⟩

set_option maxRecDepth 100000 in
set_option maxHeartbeats 1000000 in
theorem same_any (a b : Option Addr) (n ca cb : Nat) (f : Nat → Int) (w : World) (hn : n ≤ 1000) (ha : Led w a n f) (hb : Led w b n f) :
    Calls Tryd.prog 17 #[.slice a n ca, .slice b n cb] w fun e w' => e = .returned (.bool true) ∧ Below w.heap.size w w' := by
  have HA : Hid (Led w a n f) := ha
  have HB : Hid (Led w b n f) := hb
  clear ha hb
  go_enter Tryd.func17, Tryd.ntmps17
  go_wp2
  go_loopw [5] (fun j wr => ∃ k : Nat, k ≤ n ∧ j = .int .i64 k ∧ Below w.heap.size w wr) (fun j _ => n - (intOf j).toNat)
  case atStart => exact ⟨0, Nat.zero_le _, rfl, Below.refl _ _⟩
  case round =>
    obtain ⟨k, hk, rfl, hB⟩ := hrel
    have HW : Hid (Below w.heap.size w wr) := hB
    by_cases hkn : k < n
    · obtain ⟨x, ox, rfl, hx⟩ := (HA.out.below hB).at hkn
      obtain ⟨y, oy, rfl, hy⟩ := (HB.out.below hB).at hkn
      obtain ⟨z, hz⟩ : ∃ z, f k = z := ⟨_, rfl⟩
      rw [hz] at hx hy
      clear hB hz
      go_wp2
      go_quiet (fail)
      go_wp2
      go_roundw
      case rel => exact ⟨k + 1, by omega, by go_num, HW.out.trans ((drewN_below _ _).mono HW.out.size)⟩
      case measure => simp [intOf]; omega
    · obtain rfl : k = n := by omega
      clear hB
      go_wp2
      go_ret
      exact ⟨rfl, HW.out⟩

/-- requests of so many ports -/
def sq (l : List Nat) (k : Nat) : Nat → Nat := fun i => if i < k then l.getD i 0 else 0
theorem sq_lt {l : List Nat} (h : ∀ x ∈ l, x < 65536) (k i : Nat) : sq l k i < 65536 := by
  unfold sq
  split
  · rw [List.getD_eq_getElem?_getD]
    by_cases hk : i < l.length
    · rw [List.getElem?_eq_getElem hk]; exact h _ (List.getElem_mem hk)
    · rw [List.getElem?_eq_none (by omega)]; exact Nat.zero_lt_succ _
  · omega
theorem sq_next {l : List Nat} {k i : Nat} : (if i = k then l.getD k 0 else sq l k i) = sq l (k + 1) i := by
  unfold sq
  by_cases e : i = k
  · subst e; rw [if_pos rfl, if_pos (by omega)]
  · rw [if_neg e]
    by_cases h : i < k
    · rw [if_pos h, if_pos (by omega)]
    · rw [if_neg h, if_neg (by omega)]
theorem sq_rest {l : List Nat} {k i : Nat} (h : l.length ≤ k) : sq l k i = l.getD i 0 := by
  unfold sq
  split
  · rfl
  · rw [List.getD_eq_getElem?_getD, List.getElem?_eq_none (by omega)]; rfl
set_option maxRecDepth 100000 in
set_option maxHeartbeats 1000000 in
theorem square_any (a : Option Addr) (len cap n : Nat) (l : List Nat) (hn : n ≤ 16) (w : World) (hr : Nums .u16 w a len l) :
    Calls Tryd.prog 19 #[.slice a len cap, .int .i64 (n : Nat)] w fun e w' => e = .returned (.slice (some ⟨w.heap.size, 0, none⟩) n n) ∧ Cols w' w.heap.size n (fun i => l.getD i 0) ∧ Below w.heap.size w w' := by
  have hlen := hr.1
  have hmx := hr.2.1
  unfold maxLen at hmx
  have HR : Hid (Nums .u16 w a len l) := hr
  have HLen : Hid (l.length = len) := hlen
  clear hr hlen
  have hmk := run_make_row' (P := Tryd.prog) 28 29 (.int .u16 0) 2 Tryd.underlying28 infoM rfl .i64 .i64 n (by omega) (by omega)
  have HC0 : Hid (Cols (w.alloc (.cells (madeCells #[.int .u16 0] n) 29)) w.heap.size n (fun _ => 0)) := Cols.made w n
  have HB0 : Hid (Below w.heap.size w (w.alloc (.cells (madeCells #[.int .u16 0] n) 29))) := (Below.refl _ w).alloc (Nat.le_refl _) _
  obtain ⟨M, hM⟩ : ∃ M, min n len = M := ⟨_, rfl⟩
  go_enter Tryd.func19, Tryd.ntmps19
  go_wp2
  generalize w.alloc (.cells (madeCells #[.int .u16 0] n) 29) = u0 at HC0 HB0 ⊢
  go_loopw [6] (fun i wr => ∃ k : Nat, k ≤ M ∧ i = .int .i64 k ∧ Cols wr w.heap.size n (sq l k) ∧ Below w.heap.size w wr) (fun i _ => M - (intOf i).toNat)
  case atStart => exact ⟨0, Nat.zero_le _, rfl, HC0.out.congr (fun k _ => by simp [sq]), HB0.out⟩
  case round =>
    obtain ⟨k, hk, rfl, hc, hB⟩ := hrel
    have HC : Hid (Cols wr w.heap.size n (sq l k)) := hc
    have HB : Hid (Below w.heap.size w wr) := hB
    clear hc hB
    by_cases hkM : k < M
    · have hkn : k < n := by omega
      have hkl : k < len := by omega
      obtain ⟨b, off, rfl, hx⟩ := (HR.out.below HB.out).at hkl
      obtain ⟨c1, f1⟩ := HC.out k hkn
      obtain ⟨x, hx2⟩ : ∃ x, l.getD k 0 = x := ⟨_, rfl⟩
      obtain ⟨y, hy2⟩ : ∃ y, sq l k k = y := ⟨_, rfl⟩
      rw [hx2] at hx
      rw [hy2] at c1
      have HX : Hid (l.getD k 0 = x) := hx2
      clear hx2 hy2
      go_wp2
      go_roundw
      case rel =>
        refine ⟨k + 1, by omega, by go_num, (HC.out.set (k := k) (v := x) hkn).congr (fun i _ => ?_), HB.out.setCell (p := ⟨w.heap.size, k, none⟩) (Nat.le_refl _) _⟩
        rw [← HX.out]
        exact sq_next
      case measure => simp [intOf]; omega
    · obtain rfl : k = M := by omega
      have hd : (decide ((k : Int) < (n : Int)) && decide ((k : Int) < (len : Int))) = false := by
        rcases Nat.lt_or_ge k n with h | h
        · rw [decide_eq_false (p := (k : Int) < (len : Int)) (by omega), Bool.and_false]
        · rw [decide_eq_false (p := (k : Int) < (n : Int)) (by omega), Bool.false_and]
      have fin : Cols wr w.heap.size n (fun i => l.getD i 0) := HC.out.congr (fun i hi => by
        have e := HLen.out
        rcases Nat.lt_or_ge i k with h | h
        · unfold sq; rw [if_pos h]
        · exact sq_rest (by omega))
      have HF : Hid (Cols wr w.heap.size n (fun i => l.getD i 0)) := fin
      clear fin
      go_wp2
      all_goals
        go_ret
        exact ⟨rfl, HF.out, HB.out⟩
end Go.Proofs.YtlojadodabddpaaDoor
