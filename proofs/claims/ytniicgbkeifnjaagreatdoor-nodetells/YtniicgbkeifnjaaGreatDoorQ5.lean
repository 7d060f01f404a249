/-
  Contracts and plain facts that the walks lean on (RingF, RingG, Since2, RingH). Conditions: none but those that each states.
-/
import Derived.Test.YtniicgbkeifnjaaGreatDoorQ4
import Derived.Deep.QuietTactic
namespace Go.Proofs.YtniicgbkeifnjaaGreatDoor.K
open Go.ChangeShapes Go.WideShapes Go.ChangeAt Go.RowKit
set_option linter.unusedVariables false
set_option maxRecDepth 100000
def RAt (w : World) (F : Nat → Prop) (p P L n t c : Nat) (Qs : Pl → List Pk) : Prop := ∃ G pp mb S E V sl, RIn w F G p pp mb P L n S E c V sl Qs ∧ E.length + t = n ∧ 1 ≤ P ∧ P ≤ 16 ∧ 1 ≤ L ∧ L ≤ 3
theorem RAt.sans {w w' : World} {F H : Nat → Prop} {p P L n t c : Nat} {Qs : Pl → List Pk} (h : RAt w F p P L n t c Qs) (k : Sans H w w') (hd : ∀ k, F k → ¬ H k) : RAt w' F p P L n t c Qs := by
  obtain ⟨G, pp, mb, S, E, V, sl, h1, h2⟩ := h
  exact ⟨G, pp, mb, S, E, V, sl, h1.sans k hd, h2⟩
theorem RAt.below {w w' : World} {F : Nat → Prop} {p P L n t c : Nat} {Qs : Pl → List Pk} (h : RAt w F p P L n t c Qs) (k : Below w.heap.size w w') : RAt w' F p P L n t c Qs := h.sans (H := fun _ => False) (Sans.of_below k) (fun _ _ e => e)
theorem RAt.foot {w : World} {F : Nat → Prop} {p P L n t c : Nat} {Qs : Pl → List Pk} (h : RAt w F p P L n t c Qs) : ∀ k, F k → k < w.heap.size := by
  obtain ⟨G, pp, mb, S, E, V, sl, h1, h2⟩ := h
  exact h1.foot
theorem RAt.mono {w : World} {F : Nat → Prop} {p P L n t c c' : Nat} {Qs : Pl → List Pk} (h : RAt w F p P L n t c Qs) (hc : c ≤ c') : RAt w F p P L n t c' Qs := by
  obtain ⟨G, pp, mb, S, E, V, sl, h, h2⟩ := h
  exact ⟨G, pp, mb, S, E, V, sl, ⟨h.foot, h.fp, h.fm, h.fG, h.pm, h.pG, h.mG, h.c0, h.c1, h.c2, h.c3, h.c4, h.pool, h.map.mono hc, h.row, h.blk, h.one, fun q => Nat.le_trans (h.len q) hc, h.held, h.once⟩, h2⟩
def inside (P L : Nat) (q : Pl) : Prop := (0 ≤ q.1 ∧ q.1 < P) ∧ (0 ≤ q.2.1 ∧ q.2.1 < P) ∧ (0 ≤ q.2.2 ∧ q.2.2 < L)
set_option maxHeartbeats 1000000 in
theorem within_yes (P L : Nat) (i o l : Int) (h : inside P L (i, o, l)) (w : World) :
    Calls Tryz.prog 163 #[.agg #[.int .i64 i, .int .i64 o, .int .i64 l], .agg #[.int .i64 P, .int .i64 P, .int .i64 L]] w fun e w' => e = .returned (.bool true) ∧ Below w.heap.size w w' := by
  obtain ⟨⟨h1, h2⟩, ⟨h3, h4⟩, ⟨h5, h6⟩⟩ := h
  simp only at h1 h2 h3 h4 h5 h6
  go_enter Tryz.func163, Tryz.ntmps163
  go_wp2_with fail
  go_ret
  exact ⟨rfl, later (fresh _ _) (fresh _ _)⟩
set_option maxHeartbeats 1000000 in
theorem within_no (P L : Nat) (i o l : Int) (h : ¬ inside P L (i, o, l)) (w : World) :
    Calls Tryz.prog 163 #[.agg #[.int .i64 i, .int .i64 o, .int .i64 l], .agg #[.int .i64 P, .int .i64 P, .int .i64 L]] w fun e w' => e = .returned (.bool false) ∧ Below w.heap.size w w' := by
  by_cases h1 : 0 ≤ i
  · by_cases h2 : i < P
    · by_cases h3 : 0 ≤ o
      · by_cases h4 : o < P
        · by_cases h5 : 0 ≤ l
          · by_cases h6 : l < L
            · exact absurd ⟨⟨h1, h2⟩, ⟨h3, h4⟩, ⟨h5, h6⟩⟩ h
            · clear h
              go_enter Tryz.func163, Tryz.ntmps163
              go_wp2_with fail
              go_ret
              exact ⟨rfl, later (fresh _ _) (fresh _ _)⟩
          · clear h
            go_enter Tryz.func163, Tryz.ntmps163
            go_wp2_with fail
            go_ret
            exact ⟨rfl, later (fresh _ _) (fresh _ _)⟩
        · clear h
          go_enter Tryz.func163, Tryz.ntmps163
          go_wp2_with fail
          go_ret
          exact ⟨rfl, later (fresh _ _) (fresh _ _)⟩
      · clear h
        go_enter Tryz.func163, Tryz.ntmps163
        go_wp2_with fail
        go_ret
        exact ⟨rfl, later (fresh _ _) (fresh _ _)⟩
    · clear h
      go_enter Tryz.func163, Tryz.ntmps163
      go_wp2_with fail
      go_ret
      exact ⟨rfl, later (fresh _ _) (fresh _ _)⟩
  · clear h
    go_enter Tryz.func163, Tryz.ntmps163
    go_wp2_with fail
    go_ret
    exact ⟨rfl, later (fresh _ _) (fresh _ _)⟩
theorem Held.nothing (S : List (Option Pk)) : Held S [] [] := ⟨rfl, fun j k h => by simp at h⟩
theorem new_rings {u : World} {G : Nat → Prop} {pp P L n : Nat} (h : PoolAt u G pp n (none_ n) (down n)) (hP : 1 ≤ P ∧ P ≤ 16) (hL : 1 ≤ L ∧ L ≤ 3) :
    RAt ((u.alloc (.map #[] 0)).alloc (.cells #[.int .i64 P, .int .i64 P, .int .i64 L, .pointer (some ⟨pp, 0, none⟩), .map (some u.heap.size)] 180)) (fun k => k = u.heap.size + 1 ∨ k = u.heap.size ∨ G k) (u.heap.size + 1) P L n 0 0 (fun _ => []) := by
  have hG : ∀ k, G k → k < u.heap.size := h.foot
  refine ⟨G, pp, u.heap.size, none_ n, down n, fun _ => nilS, fun _ => [], ⟨?_, .inl rfl, .inr (.inl rfl), fun k hk => .inr (.inr hk), by omega, fun e => by have := hG _ e; omega, fun e => by have := hG _ e; omega, by simp, by simp, by simp, by simp, by simp, ?_, ?_, fun q => QRow.nil _, fun q g e => absurd e vblk_nil, fun q q' g e => absurd e vblk_nil, fun q => Nat.le_refl _, fun q => Held.nothing _, fun q q' j j' k e => by simp at e⟩, by rw [down_length]; rfl, hP.1, hP.2, hL.1, hL.2⟩
  · intro k hk
    simp
    rcases hk with e | e | e
    · omega
    · omega
    · have := hG k e; omega
  · exact (h.below (fresh _ _)).below (fresh _ _)
  · exact (QMap.new u).sans (F := fun _ => False) (Sans.alloc _ _) (fun e => e)
set_option maxHeartbeats 1000000 in
theorem r_new_good (P L n : Nat) (hP : 1 ≤ P ∧ P ≤ 16) (hL : 1 ≤ L ∧ L ≤ 3) (hn : 1 ≤ n ∧ n ≤ 200) (w : World) :
    Calls Tryz.prog 39 #[.int .i64 P, .int .i64 L, .int .i64 n] w fun e w' => ∃ p F, e = .returned (.pointer (some ⟨p, 0, none⟩)) ∧ RAt w' F p P L n 0 0 (fun _ => []) ∧ Below w.heap.size w w' ∧ ∀ k, F k → w.heap.size ≤ k := by
  have h1 : ¬ (P : Int) < 1 := by omega
  have h2 : ¬ (16 : Int) < P := by omega
  have h3 : ¬ (L : Int) < 1 := by omega
  have h4 : ¬ (3 : Int) < L := by omega
  go_enter Tryz.func39, Tryz.ntmps39
  go_wp2_with fail
  refine (new_good n hn w).mono ?_
  rintro e u ⟨pp, G, rfl, hPool, hb, hG⟩
  have HP : Hid (PoolAt u G pp n (none_ n) (down n) ∧ Below w.heap.size w u ∧ ∀ k, G k → w.heap.size ≤ k) := ⟨hPool, hb, hG⟩
  have hmm := @run_makeMap Tryz.prog
  clear hPool hb hG
  go_wp2_with fail
  go_ret
  obtain ⟨q1, q2, q3⟩ := HP.out
  have hz := q2.size
  refine ⟨u.heap.size + 1, fun k => k = u.heap.size + 1 ∨ k = u.heap.size ∨ G k, by simp, new_rings q1 hP hL, later (later q2 (fresh _ _)) (fresh _ _), ?_⟩
  intro k hk
  rcases hk with e | e | e
  · omega
  · omega
  · exact q3 k e
end Go.Proofs.YtniicgbkeifnjaaGreatDoor.K
namespace Go.Proofs.YtniicgbkeifnjaaGreatDoor.K
open Go.ChangeShapes Go.WideShapes Go.ChangeAt Go.RowKit
set_option linter.unusedVariables false
set_option maxRecDepth 100000
section
variable {w : World} {F : Nat → Prop} {p P L n t c : Nat} {Qs : Pl → List Pk}
set_option maxHeartbeats 1000000 in
theorem len_any (h : RAt w F p P L n t c Qs) (i o l : Int) (hq : Wf (i, o, l)) (m : Nat) (hm : (Qs (i, o, l)).length = m) :
    Calls Tryz.prog 161 #[.pointer (some ⟨p, 0, none⟩), .int .i64 i, .int .i64 o, .int .i64 l] w fun e w' => e = .returned (.int .i64 m) ∧ w' = w := by
  obtain ⟨G, pp, mb, S, E, V, sl, h, _⟩ := h
  have hc4 := h.c4
  obtain ⟨a, cap, hV⟩ : ∃ a cap, V (i, o, l) = .slice a m cap := by
    have hl := (h.held (i, o, l)).1
    rcases h.row (i, o, l) with ⟨e, e2⟩ | ⟨g, off, cap, e, _⟩
    · rw [e2] at hl
      exact ⟨none, 0, by rw [e, ← hm, ← hl]; rfl⟩
    · exact ⟨_, cap, by rw [e, hl, hm]⟩
  have hl : (Instr.lookup 176 (.map (some mb)) (.agg #[.int .i64 i, .int .i64 o, .int .i64 l]) false).run Tryz.prog w = .ok (.slice a m cap) w := by
    have := h.map.look hq
    rw [hV] at this
    exact this
  clear h hm hV
  go_enter Tryz.func161, Tryz.ntmps161
  go_wp2_with fail
  go_ret
  exact ⟨rfl, rfl⟩
def hd (l : List Pk) : Pk := l.headD zpk
end
end Go.Proofs.YtniicgbkeifnjaaGreatDoor.K
namespace Go.Proofs.YtniicgbkeifnjaaGreatDoor
open Go.ChangeShapes Go.WideShapes Go.ChangeAt Go.RowKit
set_option linter.unusedVariables false
set_option maxRecDepth 100000
structure Since (u : World) where
  w : World
  h : Below u.heap.size u w
theorem Since.any (u : World) : Nonempty (Since u) := ⟨⟨u, Below.refl _ _⟩⟩
theorem Since.cell {u : World} (n : Since u) {b o : Nat} {v : Value} (h : u.cell? ⟨b, o, none⟩ = some v) : n.w.cell? ⟨b, o, none⟩ = some v :=
  (n.h.cell (p := ⟨b, o, none⟩) (cell_lt h)).trans h
theorem region_since {P : Program} {id : Nat} {Q : Exit → Act → World → Prop} {a : Act} {u w : World} {l : List Oper} (hm : P.follows .mixedOrders = true) (hB : Region.lexB .any l.toArray = true) (hw : Below u.heap.size u w)
    (h : wpQuiet P l.toArray (fun w' => ∃ n : Since u, w' = n.w) (fun a' => ∀ w', (∃ n : Since u, w' = n.w) → Q .normal a' w') l a) : (Code.region id l.toArray true).wp P Q a w :=
  wp_region_quiet (C := fun w' => ∃ n : Since u, w' = n.w) hm hB ⟨⟨w.drew, hw.drew⟩, rfl⟩ (by simpa using h)
theorem Since.calls {P : Program} {f : FuncId} {args : Array Value} {u : World} (n : Since u) {v : Value} (h : Calls P f args n.w fun e w' => e = .returned v ∧ Below n.w.heap.size n.w w') :
    Calls P f args n.w fun e w' => e = .returned v ∧ ∃ m : Since u, w' = m.w :=
  h.mono fun e w' ⟨he, hb⟩ => ⟨he, ⟨w', later n.h hb⟩, rfl⟩
end Go.Proofs.YtniicgbkeifnjaaGreatDoor
namespace Go.Proofs.YtniicgbkeifnjaaGreatDoor.K
open Go.ChangeShapes Go.WideShapes Go.ChangeAt Go.RowKit
set_option linter.unusedVariables false
set_option maxRecDepth 100000
def pushT (b : Bool) (t : Nat) : Nat := if b then t + 1 else t
def pushQ (b : Bool) (Qs : Pl → List Pk) (q : Pl) (x : Pk) : Pl → List Pk := if b then upd Qs q (Qs q ++ [x]) else Qs
section
variable {w : World} {F : Nat → Prop} {p P L n t c : Nat} {Qs : Pl → List Pk}
set_option maxHeartbeats 1000000 in
set_option maxRecDepth 100000 in
theorem push_out (h : RAt w F p P L n t c Qs) (i o l : Int) (hq : Wf (i, o, l)) (hin : ¬ inside P L (i, o, l)) (x : Pk) :
    Calls Tryz.prog 103 #[.pointer (some ⟨p, 0, none⟩), .int .i64 i, .int .i64 o, .int .i64 l, .agg #[.int .i64 x.s, .int .i64 x.d, .int .i64 x.l, .int .u32 x.b]] w fun e w' => e = .returned (.bool false) ∧ Below w.heap.size w w' := by
  obtain ⟨G, pp, mb, S, E, V, sl, h, _⟩ := h
  obtain ⟨W, hW⟩ : ∃ W, W = (w.alloc (.cells #[.int .i64 x.s, .int .i64 x.d, .int .i64 x.l, .int .u32 x.b] 25)).alloc (.cells #[.int .i64 i, .int .i64 o, .int .i64 l] 175) := ⟨_, rfl⟩
  have bel : Below w.heap.size w W := by rw [hW]; exact later (fresh _ _) (fresh _ _)
  have h2 := h.below bel
  have hc0 := h2.c0
  have hc1 := h2.c1
  have hc2 := h2.c2
  have hx0 : W.cell? ⟨w.heap.size, 0, none⟩ = some (.int .i64 x.s) := by rw [hW]; simp
  have hx1 : W.cell? ⟨w.heap.size, 1, none⟩ = some (.int .i64 x.d) := by rw [hW]; simp
  have hx2 : W.cell? ⟨w.heap.size, 2, none⟩ = some (.int .i64 x.l) := by rw [hW]; simp
  have hx3 : W.cell? ⟨w.heap.size, 3, none⟩ = some (.int .u32 x.b) := by rw [hW]; simp
  have hb0 : W.cell? ⟨w.heap.size + 1, 0, none⟩ = some (.int .i64 i) := by rw [hW]; simp
  have hb1 : W.cell? ⟨w.heap.size + 1, 1, none⟩ = some (.int .i64 o) := by rw [hW]; simp
  have hb2 : W.cell? ⟨w.heap.size + 1, 2, none⟩ = some (.int .i64 l) := by rw [hW]; simp
  have HB : Hid (Below w.heap.size w W) := bel
  have HI : Hid (¬ inside P L (i, o, l)) := hin
  clear h h2 bel hin
  go_enter Tryz.func103, Tryz.ntmps103
  go_wp2_with fail
  rw [← hW]
  clear hW
  have hne := Since.any W
  have z0 := fun n : Since W => n.cell hc0
  have z1 := fun n : Since W => n.cell hc1
  have z2 := fun n : Since W => n.cell hc2
  have z3 := fun n : Since W => n.cell hb0
  have z4 := fun n : Since W => n.cell hb1
  have z5 := fun n : Since W => n.cell hb2
  refine region_since (u := W) (by kernel_rfl) (by kernel_rfl) (Below.refl _ _) ?_
  repeat (go_big_quiet_step ((go_at_call 163; exact Since.calls _ (within_no P L i o l HI.out _))))
  refine wpQuiet_nil ?_
  intro _ hw'
  obtain ⟨nq, hw''⟩ := hw'
  subst hw''
  go_wp2_with fail
  go_ret
  exact ⟨rfl, later HB.out nq.h⟩
def Box10 (w : World) (p P L b : Nat) (x : Pk) (i o l : Int) : Prop :=
  w.cell? ⟨p, 0, none⟩ = some (.int .i64 P) ∧ w.cell? ⟨p, 1, none⟩ = some (.int .i64 P) ∧ w.cell? ⟨p, 2, none⟩ = some (.int .i64 L) ∧ w.cell? ⟨b, 0, none⟩ = some (.int .i64 x.s) ∧ w.cell? ⟨b, 1, none⟩ = some (.int .i64 x.d) ∧ w.cell? ⟨b, 2, none⟩ = some (.int .i64 x.l) ∧ w.cell? ⟨b, 3, none⟩ = some (.int .u32 x.b) ∧
    w.cell? ⟨b + 1, 0, none⟩ = some (.int .i64 i) ∧ w.cell? ⟨b + 1, 1, none⟩ = some (.int .i64 o) ∧ w.cell? ⟨b + 1, 2, none⟩ = some (.int .i64 l)
theorem Box10.sans {H : Nat → Prop} {w w' : World} {p P L b : Nat} {x : Pk} {i o l : Int} (h : Box10 w p P L b x i o l) (k : Sans H w w') (hp : ¬ H p) (hb : ¬ H b) (hb1 : ¬ H (b + 1)) : Box10 w' p P L b x i o l := by
  obtain ⟨h0, h1, h2, h3, h4, h5, h6, h7, h8, h9⟩ := h
  exact ⟨(k.cell (p := ⟨p, 0, none⟩) (cell_lt h0) hp).trans h0, (k.cell (p := ⟨p, 1, none⟩) (cell_lt h1) hp).trans h1, (k.cell (p := ⟨p, 2, none⟩) (cell_lt h2) hp).trans h2,
    (k.cell (p := ⟨b, 0, none⟩) (cell_lt h3) hb).trans h3, (k.cell (p := ⟨b, 1, none⟩) (cell_lt h4) hb).trans h4, (k.cell (p := ⟨b, 2, none⟩) (cell_lt h5) hb).trans h5, (k.cell (p := ⟨b, 3, none⟩) (cell_lt h6) hb).trans h6,
    (k.cell (p := ⟨b + 1, 0, none⟩) (cell_lt h7) hb1).trans h7, (k.cell (p := ⟨b + 1, 1, none⟩) (cell_lt h8) hb1).trans h8, (k.cell (p := ⟨b + 1, 2, none⟩) (cell_lt h9) hb1).trans h9⟩
theorem Box10.below {w w' : World} {p P L b : Nat} {x : Pk} {i o l : Int} (h : Box10 w p P L b x i o l) (k : Below w.heap.size w w') : Box10 w' p P L b x i o l := h.sans (H := fun _ => False) (Sans.of_below k) (fun e => e) (fun e => e) (fun e => e)
theorem Box10.boxes {H : Nat → Prop} {w w' : World} {p P L b : Nat} {x : Pk} {i o l : Int} (h : Box10 w p P L b x i o l) (k : Sans H w w') (he : w'.cell? ⟨p, 0, none⟩ = some (.int .i64 P) ∧ w'.cell? ⟨p, 1, none⟩ = some (.int .i64 P) ∧ w'.cell? ⟨p, 2, none⟩ = some (.int .i64 L)) (hb : ¬ H b) (hb1 : ¬ H (b + 1)) : Box10 w' p P L b x i o l := by
  obtain ⟨h0, h1, h2, h3, h4, h5, h6, h7, h8, h9⟩ := h
  exact ⟨he.1, he.2.1, he.2.2,
    (k.cell (p := ⟨b, 0, none⟩) (cell_lt h3) hb).trans h3, (k.cell (p := ⟨b, 1, none⟩) (cell_lt h4) hb).trans h4, (k.cell (p := ⟨b, 2, none⟩) (cell_lt h5) hb).trans h5, (k.cell (p := ⟨b, 3, none⟩) (cell_lt h6) hb).trans h6,
    (k.cell (p := ⟨b + 1, 0, none⟩) (cell_lt h7) hb1).trans h7, (k.cell (p := ⟨b + 1, 1, none⟩) (cell_lt h8) hb1).trans h8, (k.cell (p := ⟨b + 1, 2, none⟩) (cell_lt h9) hb1).trans h9⟩
theorem RAt.ends {w : World} {F : Nat → Prop} {p P L n t c : Nat} {Qs : Pl → List Pk} (h : RAt w F p P L n t c Qs) : w.cell? ⟨p, 0, none⟩ = some (.int .i64 P) ∧ w.cell? ⟨p, 1, none⟩ = some (.int .i64 P) ∧ w.cell? ⟨p, 2, none⟩ = some (.int .i64 L) := by
  obtain ⟨G, pp, mb, S, E, V, sl, h, _⟩ := h
  exact ⟨h.c0, h.c1, h.c2⟩
set_option maxHeartbeats 2000000 in
set_option maxRecDepth 100000 in
theorem push_in (h : RAt w F p P L n t c Qs) (hc : c < 1000000) (i o l : Int) (hq : Wf (i, o, l)) (hin : inside P L (i, o, l)) (x : Pk) (b : Bool) (hb : decide (t < n) = b) :
    Calls Tryz.prog 103 #[.pointer (some ⟨p, 0, none⟩), .int .i64 i, .int .i64 o, .int .i64 l, .agg #[.int .i64 x.s, .int .i64 x.d, .int .i64 x.l, .int .u32 x.b]] w fun e w' => e = .returned (.bool b) ∧ ∃ F', RAt w' F' p P L n (pushT b t) (c + 1) (pushQ b Qs (i, o, l) x) ∧ Grows F w F' w' := by
  have HRA : Hid (RAt w F p P L n t c Qs) := h
  obtain ⟨G, pp, mb, S, E, V, sl, h, hEt, hPL⟩ := h
  obtain ⟨W, hW⟩ : ∃ W, W = (w.alloc (.cells #[.int .i64 x.s, .int .i64 x.d, .int .i64 x.l, .int .u32 x.b] 25)).alloc (.cells #[.int .i64 i, .int .i64 o, .int .i64 l] 175) := ⟨_, rfl⟩
  have bel : Below w.heap.size w W := by rw [hW]; exact later (fresh _ _) (fresh _ _)
  have h2 := h.below bel
  have hc0 := h2.c0
  have hc1 := h2.c1
  have hc2 := h2.c2
  have hx0 : W.cell? ⟨w.heap.size, 0, none⟩ = some (.int .i64 x.s) := by rw [hW]; simp
  have hx1 : W.cell? ⟨w.heap.size, 1, none⟩ = some (.int .i64 x.d) := by rw [hW]; simp
  have hx2 : W.cell? ⟨w.heap.size, 2, none⟩ = some (.int .i64 x.l) := by rw [hW]; simp
  have hx3 : W.cell? ⟨w.heap.size, 3, none⟩ = some (.int .u32 x.b) := by rw [hW]; simp
  have hb0 : W.cell? ⟨w.heap.size + 1, 0, none⟩ = some (.int .i64 i) := by rw [hW]; simp
  have hb1 : W.cell? ⟨w.heap.size + 1, 1, none⟩ = some (.int .i64 o) := by rw [hW]; simp
  have hb2 : W.cell? ⟨w.heap.size + 1, 2, none⟩ = some (.int .i64 l) := by rw [hW]; simp
  have HH : Hid (∀ u : World, Below w.heap.size w u → Calls Tryz.prog 164 #[.pointer (some ⟨p, 3, none⟩), .agg #[.int .i64 i, .int .i64 o, .int .i64 l], .agg #[.int .i64 x.s, .int .i64 x.d, .int .i64 x.l, .int .u32 x.b]] u fun e w' => e = .returned (.bool b) ∧ ∃ F', RAt w' F' p P L n (pushT b t) (c + 1) (pushQ b Qs (i, o, l) x) ∧ Grows F u F' w') := by
    intro u bu
    by_cases e : E = []
    · subst e
      have : ¬ t < n := by simp at hEt; omega
      rw [decide_eq_false this] at hb
      subst hb
      refine (spush_no (h.below bu) i o l hq x).mono ?_
      rintro e w' ⟨he, hbel⟩
      exact ⟨he, F, ((HRA.out.below bu).below hbel).mono (Nat.le_succ _), grows_below F hbel⟩
    · obtain ⟨E0, k, rfl⟩ := snoc_of e
      have hlen : E0.length + 1 + t = n := by simpa using hEt
      have : t < n := by omega
      rw [decide_eq_true this] at hb
      subst hb
      refine (spush_yes (h.below bu) hc i o l hq x).mono ?_
      rintro e w' ⟨he, F', G', V', sl', hR, hg⟩
      exact ⟨he, F', ⟨G', pp, mb, _, E0, V', sl', hR, by show E0.length + (t + 1) = n; omega, hPL⟩, hg⟩
  have HB : Hid (Below w.heap.size w W) := bel
  have HI : Hid (inside P L (i, o, l)) := hin
  have nF : ∀ j, w.heap.size ≤ j → ¬ F j := fun j hj e => by have := h.foot j e; omega
  have HX : Hid (Box10 W p P L w.heap.size x i o l) := ⟨hc0, hc1, hc2, hx0, hx1, hx2, hx3, hb0, hb1, hb2⟩
  clear h h2 bel hin hb hEt
  go_enter Tryz.func103, Tryz.ntmps103
  go_wp2_with fail
  rw [← hW]
  clear hW
  go_region_held3 (fun w' => w'.cell? ⟨p, 0, none⟩ = some (.int .i64 P) ∧ w'.cell? ⟨p, 1, none⟩ = some (.int .i64 P) ∧ w'.cell? ⟨p, 2, none⟩ = some (.int .i64 L) ∧ w'.cell? ⟨w.heap.size, 0, none⟩ = some (.int .i64 x.s) ∧ w'.cell? ⟨w.heap.size, 1, none⟩ = some (.int .i64 x.d) ∧ w'.cell? ⟨w.heap.size, 2, none⟩ = some (.int .i64 x.l) ∧ w'.cell? ⟨w.heap.size, 3, none⟩ = some (.int .u32 x.b) ∧
      w'.cell? ⟨w.heap.size + 1, 0, none⟩ = some (.int .i64 i) ∧ w'.cell? ⟨w.heap.size + 1, 1, none⟩ = some (.int .i64 o) ∧ w'.cell? ⟨w.heap.size + 1, 2, none⟩ = some (.int .i64 l)) (first | exact CK2.out | exact CK1.out | exact HX.out.below (drewN_below W 1))
    (first | (go_at_call 163; refine (within_yes P L i o l HI.out _).mono ?_; rintro e u ⟨rfl, hb⟩; have CK1 : Hid (Box10 u p P L w.heap.size x i o l) := (HX.out.below (drewN_below W 1)).below hb; have HU : Hid (Below w.heap.size w u) := later (later HB.out (drewN_below W 1)) hb; clear hb) | (go_at_call 164; refine (HH.out _ HU.out).mono ?_; rintro e u2 ⟨rfl, F', hR, hg⟩; have CK2 : Hid (Box10 u2 p P L w.heap.size x i o l) := CK1.out.boxes hg.1 hR.ends (nF _ (Nat.le_refl _)) (nF _ (Nat.le_succ _)); have HZ : Hid (RAt u2 F' p P L n (pushT b t) (c + 1) (pushQ b Qs (i, o, l) x) ∧ Grows F u F' u2) := ⟨hR, hg⟩; clear hR hg))
  go_wp2_with fail
  go_ret
  obtain ⟨z1, z2⟩ := HZ.out
  exact ⟨rfl, F', z1, (Sans.of_below HU.out).then z2.1, fun k hk => (z2.2 k hk).imp id (fun e => Nat.le_trans HU.out.size e)⟩
def takes (P L n t : Nat) (q : Pl) : Bool := decide (((0 ≤ q.1 ∧ q.1 < P) ∧ (0 ≤ q.2.1 ∧ q.2.1 < P) ∧ (0 ≤ q.2.2 ∧ q.2.2 < L)) ∧ t < n)
theorem rpush_any (h : RAt w F p P L n t c Qs) (hc : c < 1000000) (i o l : Int) (hq : Wf (i, o, l)) (x : Pk) (b : Bool) (hb : takes P L n t (i, o, l) = b) :
    Calls Tryz.prog 103 #[.pointer (some ⟨p, 0, none⟩), .int .i64 i, .int .i64 o, .int .i64 l, .agg #[.int .i64 x.s, .int .i64 x.d, .int .i64 x.l, .int .u32 x.b]] w fun e w' => e = .returned (.bool b) ∧ ∃ F', RAt w' F' p P L n (pushT b t) (c + 1) (pushQ b Qs (i, o, l) x) ∧ Grows F w F' w' := by
  by_cases hin : ((0 ≤ i ∧ i < P) ∧ (0 ≤ o ∧ o < P) ∧ (0 ≤ l ∧ l < L))
  · refine push_in h hc i o l hq hin x b ?_
    rw [← hb]
    unfold takes
    by_cases ht : t < n
    · rw [decide_eq_true ht, decide_eq_true (show _ ∧ _ from ⟨hin, ht⟩)]
    · rw [decide_eq_false ht, decide_eq_false (fun e => ht e.2)]
  · have hb' : b = false := by
      rw [← hb]
      exact decide_eq_false (fun e => hin e.1)
    subst hb'
    refine (push_out h i o l hq hin x).mono ?_
    rintro e w' ⟨he, hbel⟩
    exact ⟨he, F, (h.below hbel).mono (Nat.le_succ _), grows_below F hbel⟩
end
end Go.Proofs.YtniicgbkeifnjaaGreatDoor.K
