/-
  Contracts and plain facts that the walks lean on (HostLandB, HostLandC). Conditions: none but those that each states.
-/
import Derived.Test.YtniicgbkeifnjaaGreatDoorQ16
import Derived.Deep.AppendLies
import Derived.Deep.DeepCutAuto
namespace Go.Proofs.YtniicgbkeifnjaaGreatDoor.K
open Go.ChangeShapes Go.WideShapes Go.ChangeAt Go.RowKit
set_option linter.unusedVariables false
set_option maxRecDepth 100000
section
variable {w : World} {F : Nat → Prop} {p n q : Nat} {L G : List Pk}
set_option maxHeartbeats 2000000 in
set_option maxRecDepth 100000 in
theorem hPut_lane (h : LAt w F p n q L G) (x : Pk) (hl : x.l < 0 ∨ (n : Int) ≤ x.l) :
    Calls Tryz.prog 43 #[.pointer (some ⟨p, 0, none⟩), .agg #[.int .i64 x.s, .int .i64 x.d, .int .i64 x.l, .int .u32 x.b]] w fun e w' => e = .returned (.int .u16 1) ∧ Below w.heap.size w w' := by
  obtain ⟨A, C, b, cb, h⟩ := h
  obtain ⟨W, hW⟩ : ∃ W, W = w.alloc (.cells #[.int .i64 x.s, .int .i64 x.d, .int .i64 x.l, .int .u32 x.b] 25) := ⟨_, rfl⟩
  have bel : Below w.heap.size w W := by rw [hW]; exact fresh _ _
  have HB : Hid (Below w.heap.size w W) := bel
  have p2 : W.cell? ⟨w.heap.size, 2, none⟩ = some (.int .i64 x.l) := by rw [hW]; simp
  have H0 : Hid (W.cell? ⟨p, 0, none⟩ = some (.int .i64 n)) := (h.below bel).c0
  have hb : (decide (0 ≤ x.l) && decide (x.l < n)) = false := by
    rw [Bool.and_eq_false_iff]
    by_cases e : 0 ≤ x.l
    · exact .inr (decide_eq_false (by omega))
    · exact .inl (decide_eq_false e)
  clear h bel hl
  go_enter Tryz.func43, Tryz.ntmps43
  go_wp2_with fail
  rw [← hW]
  clear hW
  go_wp2_with (go_at_call 44; refine (hhas_any H0.out x.l hb).mono ?_; rintro e w1 ⟨rfl, rfl⟩)
  go_ret
  exact ⟨rfl, HB.out⟩
set_option maxHeartbeats 4000000 in
set_option maxRecDepth 100000 in
theorem hPut_full (h : LAt w F p n q L G) (x : Pk) (hl : ¬ (x.l < 0 ∨ (n : Int) ≤ x.l)) (hq : q ≤ (Hst.lane L x.l).length) :
    Calls Tryz.prog 43 #[.pointer (some ⟨p, 0, none⟩), .agg #[.int .i64 x.s, .int .i64 x.d, .int .i64 x.l, .int .u32 x.b]] w fun e w' => e = .returned (.int .u16 150) ∧ Below w.heap.size w w' := by
  obtain ⟨A, C, b, cb, h⟩ := h
  obtain ⟨xs, xd, xl, xb⟩ := x
  simp only at hl hq ⊢
  obtain ⟨k, rfl⟩ : ∃ k : Nat, xl = k := ⟨xl.toNat, by omega⟩
  have hk : k < 3 := by have := h.fit.n3; omega
  have hk3 : (k : Int) < 3 := by omega
  obtain ⟨W, hW⟩ : ∃ W, W = w.alloc (.cells #[.int .i64 xs, .int .i64 xd, .int .i64 k, .int .u32 xb] 25) := ⟨_, rfl⟩
  have bel : Below w.heap.size w W := by rw [hW]; exact fresh _ _
  have HB : Hid (Below w.heap.size w W) := bel
  have H0 : Hid (LIn w F p n q L G A C b cb) := h
  have HK : Hid (k < 3) := hk
  obtain ⟨m, hm⟩ : ∃ m, (Hst.lane L (k : Nat)).length = m := ⟨_, rfl⟩
  have HM : Hid ((Hst.lane L (k : Nat)).length = m) := hm
  rw [hm] at hq
  have p0 : W.cell? ⟨w.heap.size, 0, none⟩ = some (.int .i64 xs) := by rw [hW]; simp
  have p1 : W.cell? ⟨w.heap.size, 1, none⟩ = some (.int .i64 xd) := by rw [hW]; simp
  have p2 : W.cell? ⟨w.heap.size, 2, none⟩ = some (.int .i64 k) := by rw [hW]; simp
  have p3 : W.cell? ⟨w.heap.size, 3, none⟩ = some (.int .u32 xb) := by rw [hW]; simp
  have HC0 : Hid (W.cell? ⟨p, 0, none⟩ = some (.int .i64 n)) := (h.below bel).c0
  have hb : (decide (0 ≤ (k : Int)) && decide ((k : Int) < n)) = true := by
    rw [decide_eq_true (show 0 ≤ (k : Int) by omega), decide_eq_true (show (k : Int) < n by omega)]
    rfl
  have c1 := (h.below bel).c1
  have cq := (h.below bel).cq k hk
  rw [hm] at cq
  obtain ⟨a, ha⟩ : ∃ a, A k = a := ⟨_, rfl⟩
  obtain ⟨cap, hcap⟩ : ∃ cap, C k = cap := ⟨_, rfl⟩
  rw [ha, hcap] at cq
  have HA : Hid (A k = a ∧ C k = cap) := ⟨ha, hcap⟩
  clear ha hcap
  have hne := Since.any W
  have d1 := fun j : Since W => j.cell c1
  have d2 := fun j : Since W => j.cell p2
  have d3 := fun j : Since W => j.cell cq
  have g2 : decide ((q : Int) ≤ (m : Int)) = true := decide_eq_true (by omega)
  clear h bel hm hl hk
  go_enter Tryz.func43, Tryz.ntmps43
  go_wp2_with fail
  rw [← hW]
  clear hW
  go_wp2_with (go_at_call 44; refine (hhas_any HC0.out k hb).mono ?_; rintro e w1 ⟨rfl, hw1⟩; obtain rfl := hw1.symm)
  refine region_since (u := W) (by kernel_rfl) (by kernel_rfl) (Below.refl _ _) ?_
  repeat (go_big_quiet_step (first | fail))
  refine wpQuiet_nil ?_
  intro _ hw'
  obtain ⟨nq, hw2⟩ := hw'
  subst hw2
  go_wp2_with fail
  go_ret
  exact ⟨rfl, later HB.out nq.h⟩
set_option maxHeartbeats 4000000 in
set_option maxRecDepth 100000 in
theorem hPut_ok (h : LAt w F p n q L G) (x : Pk) (hl : ¬ (x.l < 0 ∨ (n : Int) ≤ x.l)) (hq : ¬ q ≤ (Hst.lane L x.l).length) :
    Calls Tryz.prog 43 #[.pointer (some ⟨p, 0, none⟩), .agg #[.int .i64 x.s, .int .i64 x.d, .int .i64 x.l, .int .u32 x.b]] w fun e w' => e = .returned (.int .u16 0) ∧ ∃ F', LAt w' F' p n q (L ++ [x]) G ∧ Grows F w F' w' := by
  have HFit : Hid (Hst.Fits n q (L ++ [x])) := by
    have := h.fit.put x
    rw [Hst.putL_yes (Hst.putE_ok hl hq)] at this
    exact this
  have hm24 : (Hst.lane L x.l).length ≤ 24 := Nat.le_trans (Hst.lane_len _ _) h.fit.len
  obtain ⟨A, C, b, cb, h⟩ := h
  obtain ⟨xs, xd, xl, xb⟩ := x
  simp only at hl hq ⊢
  obtain ⟨k, rfl⟩ : ∃ k : Nat, xl = k := ⟨xl.toNat, by omega⟩
  have hk : k < 3 := by have := h.fit.n3; omega
  have hk3 : (k : Int) < 3 := by omega
  obtain ⟨W, hW⟩ : ∃ W, W = w.alloc (.cells #[.int .i64 xs, .int .i64 xd, .int .i64 k, .int .u32 xb] 25) := ⟨_, rfl⟩
  have bel : Below w.heap.size w W := by rw [hW]; exact fresh _ _
  have HB : Hid (Below w.heap.size w W) := bel
  have H0 : Hid (LIn w F p n q L G A C b cb) := h
  have HK : Hid (k < 3) := hk
  obtain ⟨m, hm⟩ : ∃ m, (Hst.lane L (k : Nat)).length = m := ⟨_, rfl⟩
  have HM : Hid ((Hst.lane L (k : Nat)).length = m) := hm
  rw [hm] at hq
  have p0 : W.cell? ⟨w.heap.size, 0, none⟩ = some (.int .i64 xs) := by rw [hW]; simp
  have p1 : W.cell? ⟨w.heap.size, 1, none⟩ = some (.int .i64 xd) := by rw [hW]; simp
  have p2 : W.cell? ⟨w.heap.size, 2, none⟩ = some (.int .i64 k) := by rw [hW]; simp
  have p3 : W.cell? ⟨w.heap.size, 3, none⟩ = some (.int .u32 xb) := by rw [hW]; simp
  have HC0 : Hid (W.cell? ⟨p, 0, none⟩ = some (.int .i64 n)) := (h.below bel).c0
  have hb : (decide (0 ≤ (k : Int)) && decide ((k : Int) < n)) = true := by
    rw [decide_eq_true (show 0 ≤ (k : Int) by omega), decide_eq_true (show (k : Int) < n by omega)]
    rfl
  have c1 := (h.below bel).c1
  have cq := (h.below bel).cq k hk
  rw [hm] at cq
  obtain ⟨a, ha⟩ : ∃ a, A k = a := ⟨_, rfl⟩
  obtain ⟨cap, hcap⟩ : ∃ cap, C k = cap := ⟨_, rfl⟩
  rw [ha, hcap] at cq
  have HA : Hid (A k = a ∧ C k = cap) := ⟨ha, hcap⟩
  clear ha hcap
  have hne := Since.any W
  have d1 := fun j : Since W => j.cell c1
  have d2 := fun j : Since W => j.cell p2
  have d3 := fun j : Since W => j.cell cq
  have g2 : decide ((q : Int) ≤ (m : Int)) = false := decide_eq_false (by omega)
  simp only at hm24 HFit ⊢
  rw [hm] at hm24
  clear h bel hm hl hk
  go_enter Tryz.func43, Tryz.ntmps43
  go_wp2_with fail
  rw [← hW]
  clear hW
  go_wp2_with (go_at_call 44; refine (hhas_any HC0.out k hb).mono ?_; rintro e w1 ⟨rfl, hw1⟩; obtain rfl := hw1.symm)
  refine region_since (u := W) (by kernel_rfl) (by kernel_rfl) (Below.refl _ _) ?_
  repeat (go_big_quiet_step (first | fail))
  refine wpQuiet_nil ?_
  intro _ hw'
  obtain ⟨nr, hw2⟩ := hw'
  subst hw2
  have HV : Hid (Below w.heap.size w nr.w) := later HB.out nr.h
  have e0 := (nr.h.cell (p := ⟨w.heap.size, 0, none⟩) (cell_lt p0)).trans p0
  have e1 := (nr.h.cell (p := ⟨w.heap.size, 1, none⟩) (cell_lt p1)).trans p1
  have e2 := (nr.h.cell (p := ⟨w.heap.size, 2, none⟩) (cell_lt p2)).trans p2
  have e3 := (nr.h.cell (p := ⟨w.heap.size, 3, none⟩) (cell_lt p3)).trans p3
  have k2 := (nr.h.cell (p := ⟨p, 2 + k, none⟩) (cell_lt cq)).trans cq
  clear d1 d2 d3 hne p0 p1 p2 p3 cq c1
  obtain ⟨V, hV⟩ : ∃ V, nr.w = V := ⟨_, rfl⟩
  rw [hV] at HV e0 e1 e2 e3 k2 ⊢
  clear hV
  obtain ⟨i0, hi0, hz0, hz1, hz2⟩ := info_parts infoPk
  obtain ⟨X, hX⟩ : ∃ X : Obj, X = .cells #[.int .i64 xs, .int .i64 xd, .int .i64 k, .int .u32 xb] 25 := ⟨_, rfl⟩
  have HBX : Hid (Below w.heap.size w (V.drew.alloc X)) := later (later HV.out (drewN_below V 1)) (fresh _ _)
  have HO : Hid ((V.drew.alloc X).ownsRow 0 25 4 (.slice a m cap) m (kcells (Hst.lane L (k : Nat)))) := by
    have := (H0.out.below HBX.out).rowq k HK.out
    rw [HM.out, HA.out.1, HA.out.2] at this
    exact this
  have HNw : Hid (∀ (j : Nat) (v : Value), [Value.int .i64 xs, .int .i64 xd, .int .i64 k, .int .u32 xb][j]? = some v → (V.drew.alloc X).cell? ((⟨V.heap.size, 0, none⟩ : Addr).add j) = some v) := by
    rw [hX]
    exact World.news_of_block (cs := #[.int .i64 xs, .int .i64 xd, .int .i64 k, .int .u32 xb]) (t := 25) (fr := (0, 0)) (heap_alloc_new V.drew _)
  have hrl : p < w.heap.size := H0.out.foot p H0.out.self
  have hrn : some p ≠ (Value.slice a m cap).ownBlock := by
    cases a with
    | none => simp [Value.ownBlock]
    | some ad => simp only [Value.ownBlock]; intro e; injection e with e; exact (H0.out.headq k HK.out ad HA.out.1).2 e.symm
  have hxn : some w.heap.size ≠ (Value.slice a m cap).ownBlock := by
    cases a with
    | none => simp [Value.ownBlock]
    | some ad => simp only [Value.ownBlock]; intro e; injection e with e; have := H0.out.foot _ (H0.out.headq k HK.out ad HA.out.1).1; omega
  subst hX
  have hru : p < V.heap.size := cell_lt k2
  have hwu : w.heap.size < V.heap.size := cell_lt e0
  have hxx : ∀ (g cap2 : Nat) (u2 : World), Hid (u2.ownsRow 0 25 4 (.slice (some ⟨g, 0, none⟩) (m + 1) cap2) (m + 1) (kcells (Hst.lane L (k : Nat)) ++ [.int .i64 xs, .int .i64 xd, .int .i64 k, .int .u32 xb])) → Hid ((V.drew.alloc (.cells #[.int .i64 xs, .int .i64 xd, .int .i64 k, .int .u32 xb] 25)).grownBy u2 (Value.slice a m cap).ownBlock) → Hid ((Value.slice a m cap).ownBlock = some g ∨ g = V.heap.size + 1) →
      ∃ F', LAt (u2.setCell ⟨p, 2 + k, none⟩ (.slice (some ⟨g, 0, none⟩) (m + 1) cap2)) F' p n q (L ++ [⟨xs, xd, k, xb⟩]) G ∧ Grows F w F' (u2.setCell ⟨p, 2 + k, none⟩ (.slice (some ⟨g, 0, none⟩) (m + 1) cap2)) := by
    intro g cap2 u2 hown hg hat
    have hbk : ∀ j, (Value.slice a m cap).ownBlock = some j → blk (A k) j := by
      intro j e
      rw [HA.out.1]
      cases a with
      | none => simp [Value.ownBlock] at e
      | some ad => simp only [Value.ownBlock, Option.some.injEq] at e; exact ⟨ad, rfl, e⟩
    refine H0.out.turn HK.out (L' := L ++ [⟨xs, xd, k, xb⟩]) ((Sans.of_below HBX.out).then (Sans.of_grown hg.out hbk)) ?_ (hat.out.elim (fun e => .inl (hbk g e)) (fun e => .inr ?_)) ?_ ?_ HFit.out
    · have := Hst.lane_snoc_at L ⟨xs, xd, k, xb⟩
      simp only at this
      rw [this, kcells_snoc]
      exact hown.out
    · have := HV.out.size
      omega
    · have := Hst.lane_snoc_at L ⟨xs, xd, k, xb⟩
      simp only at this
      rw [this, List.length_append, HM.out]
      rfl
    · intro j hj
      exact Hst.lane_snoc_not L (fun e => hj (by have : (k : Int) = j := e; omega))
  have s2 : ∀ (g cap2 : Nat) (u2 : World), (V.drew.alloc (.cells #[.int .i64 xs, .int .i64 xd, .int .i64 k, .int .u32 xb] 25)).grownBy u2 (Value.slice a m cap).ownBlock → u2.cell? ⟨p, 2 + k, none⟩ = some (.slice a m cap) ∧ u2.frozen? ⟨p, 2 + k, none⟩ = false ∧ u2.cell? ⟨w.heap.size, 2, none⟩ = some (.int .i64 k) := by
    intro g cap2 u2 hg
    refine ⟨hg.cell (a := ⟨p, 2 + k, none⟩) ((HBX.out.cell (p := ⟨p, 2 + k, none⟩) hrl).trans ?_) hrn, (hg.frozen_far ⟨p, 2 + k, none⟩ (Nat.lt_of_lt_of_le hrl HBX.out.size) hrn).trans ((HBX.out.frozen (p := ⟨p, 2 + k, none⟩) hrl).trans (H0.out.fq k HK.out)), hg.cell (a := ⟨w.heap.size, 2, none⟩) ((later (drewN_below V 1) (fresh _ _)).cell (p := ⟨w.heap.size, 2, none⟩) hwu |>.trans e2) hxn⟩
    rw [H0.out.cq k HK.out, HM.out, HA.out.1, HA.out.2]
  have HS2 : Hid (∀ (g cap2 : Nat) u2, (V.drew.alloc (.cells #[.int .i64 xs, .int .i64 xd, .int .i64 k, .int .u32 xb] 25)).grownBy u2 (Value.slice a m cap).ownBlock → u2.cell? ⟨p, 2 + k, none⟩ = some (.slice a m cap) ∧ u2.frozen? ⟨p, 2 + k, none⟩ = false ∧ u2.cell? ⟨w.heap.size, 2, none⟩ = some (.int .i64 k)) := s2
  have HXX : Hid _ := hxx
  clear hxx s2 hrn hxn
  go_wp2_with fail
  go_region_law (refine step_append_lies _ (by rfl) (.tmp 34) (.tmp 36) 65 (by rfl) 0 25 i0 _ 4 32 Tryz.underlying65 hi0 hz0 hz1 hz2 rfl (by decide) (.slice a m cap) m (kcells (Hst.lane L (k : Nat))) (by rfl) HO.out ⟨V.heap.size, 0, none⟩ 1 1 [.int .i64 xs, .int .i64 xd, .int .i64 k, .int .u32 xb] (by rfl) rfl HNw.out (by simp [Value.oneCell']) (by decide) (by unfold maxLen; omega) (by omega) (Nat.zero_le _) (V.heap.size + 1) (by simp) ?_; intro g cap2 u2 hown hg hat hlt; have s0 : u2.cell? ⟨p, 2 + k, none⟩ = some (.slice a m cap) := (HS2.out g cap2 u2 hg).1; have s1 : u2.frozen? ⟨p, 2 + k, none⟩ = false := (HS2.out g cap2 u2 hg).2.1; have s3 : u2.cell? ⟨w.heap.size, 2, none⟩ = some (.int .i64 k) := (HS2.out g cap2 u2 hg).2.2)
  all_goals
    go_wp2_with fail
    go_ret
    exact ⟨rfl, HXX.out g cap2 u2 hown hg hat⟩
set_option maxHeartbeats 4000000 in
set_option maxRecDepth 100000 in
theorem hEject_any (h : LAt w F p n q L G) (x : Pk) (hG : G.length ≤ 100000) :
    Calls Tryz.prog 176 #[.pointer (some ⟨p, 0, none⟩), .agg #[.int .i64 x.s, .int .i64 x.d, .int .i64 x.l, .int .u32 x.b]] w fun e w' => e = .returned (.tuple #[]) ∧ ∃ F', LAt w' F' p n q L (G ++ [x]) ∧ Grows F w F' w' := by
  obtain ⟨A, C, b, capb, h⟩ := h
  obtain ⟨W, hW⟩ : ∃ W, W = w.alloc (.cells #[.int .i64 x.s, .int .i64 x.d, .int .i64 x.l, .int .u32 x.b] 25) := ⟨_, rfl⟩
  have bel : Below w.heap.size w W := by rw [hW]; exact fresh _ _
  obtain ⟨m, hm⟩ : ∃ m, G.length = m := ⟨_, rfl⟩
  have k3 := (h.below bel).c5
  rw [hm] at k3 hG
  have HB : Hid (Below w.heap.size w W) := bel
  have H0 : Hid (LIn w F p n q L G A C b capb) := h
  have HM : Hid (G.length = m) := hm
  have p0 : W.cell? ⟨w.heap.size, 0, none⟩ = some (.int .i64 x.s) := by rw [hW]; simp
  have p1 : W.cell? ⟨w.heap.size, 1, none⟩ = some (.int .i64 x.d) := by rw [hW]; simp
  have p2 : W.cell? ⟨w.heap.size, 2, none⟩ = some (.int .i64 x.l) := by rw [hW]; simp
  have p3 : W.cell? ⟨w.heap.size, 3, none⟩ = some (.int .u32 x.b) := by rw [hW]; simp
  obtain ⟨i0, hi0, hz0, hz1, hz2⟩ := info_parts infoPk
  obtain ⟨X, hX⟩ : ∃ X : Obj, X = .cells #[.int .i64 x.s, .int .i64 x.d, .int .i64 x.l, .int .u32 x.b] 25 := ⟨_, rfl⟩
  have HBX : Hid (Below w.heap.size w (W.drew.alloc X)) := later (later HB.out (drewN_below W 1)) (fresh _ _)
  have HO : Hid ((W.drew.alloc X).ownsRow 0 25 4 (.slice b m capb) m (kcells G)) := by
    have := (H0.out.below HBX.out).rowG
    rw [HM.out] at this
    exact this
  have HNw : Hid (∀ (j : Nat) (v : Value), [Value.int .i64 x.s, .int .i64 x.d, .int .i64 x.l, .int .u32 x.b][j]? = some v → (W.drew.alloc X).cell? ((⟨W.heap.size, 0, none⟩ : Addr).add j) = some v) := by
    rw [hX]
    exact World.news_of_block (cs := #[.int .i64 x.s, .int .i64 x.d, .int .i64 x.l, .int .u32 x.b]) (t := 25) (fr := (0, 0)) (heap_alloc_new W.drew _)
  have hrl : p < w.heap.size := H0.out.foot p H0.out.self
  have hrn : some p ≠ (Value.slice b m capb).ownBlock := by
    cases b with
    | none => simp [Value.ownBlock]
    | some ad => simp only [Value.ownBlock]; intro e; injection e with e; exact (H0.out.headG ad rfl).2 e.symm
  subst hX
  have hru : p < W.heap.size := cell_lt k3
  have hwu : w.heap.size < W.heap.size := cell_lt p0
  clear h bel hm
  go_enter Tryz.func176, Tryz.ntmps176
  go_wp2_with fail
  rw [← hW]
  clear hW
  go_region_law (refine step_append_lies _ (by rfl) (.tmp 8) (.tmp 10) 65 (by rfl) 0 25 i0 _ 4 32 Tryz.underlying65 hi0 hz0 hz1 hz2 rfl (by decide) (.slice b m capb) m (kcells G) (by rfl) HO.out ⟨W.heap.size, 0, none⟩ 1 1 [.int .i64 x.s, .int .i64 x.d, .int .i64 x.l, .int .u32 x.b] (by rfl) rfl HNw.out (by simp [Value.oneCell']) (by decide) (by unfold maxLen; omega) (by omega) (Nat.zero_le _) (W.heap.size + 1) (by simp) ?_; intro g cap2 u2 hown hg hat hlt; have s0 : u2.cell? ⟨p, 5, none⟩ = some (.slice b m capb) := hg.cell (a := ⟨p, 5, none⟩) (((HBX.out.cell (p := ⟨p, 5, none⟩) hrl).trans H0.out.c5).trans (by rw [HM.out])) hrn; have s1 : u2.frozen? ⟨p, 5, none⟩ = false := (hg.frozen_far ⟨p, 5, none⟩ (Nat.lt_of_lt_of_le hrl HBX.out.size) hrn).trans ((HBX.out.frozen (p := ⟨p, 5, none⟩) hrl).trans H0.out.f5))
  all_goals
    go_wp2_with fail
    go_end0
    have hbk : ∀ j, (Value.slice b m capb).ownBlock = some j → blk b j := by
      intro j e
      cases b with
      | none => simp [Value.ownBlock] at e
      | some ad => simp only [Value.ownBlock, Option.some.injEq] at e; exact ⟨ad, rfl, e⟩
    refine ⟨rfl, H0.out.came (G' := G ++ [x]) ((Sans.of_below HBX.out).then (Sans.of_grown hg hbk)) (by rw [kcells_snoc]; exact hown) (hat.elim (fun e => .inl (hbk g e)) (fun e => .inr (by have := HB.out.size; omega))) (by rw [List.length_append, HM.out]; rfl)⟩
theorem hPut_any (h : LAt w F p n q L G) (x : Pk) {z : Int} (hz : Hst.putE n q L x = z) {L' : List Pk} (hL : Hst.putL n q L x = L') :
    Calls Tryz.prog 43 #[.pointer (some ⟨p, 0, none⟩), .agg #[.int .i64 x.s, .int .i64 x.d, .int .i64 x.l, .int .u32 x.b]] w fun e w' => e = .returned (.int .u16 z) ∧ ∃ F', LAt w' F' p n q L' G ∧ Grows F w F' w' := by
  by_cases hl : x.l < 0 ∨ (n : Int) ≤ x.l
  · have hp := Hst.putE_lane (q := q) (L := L) hl
    rw [hz] at hp
    subst hp
    rw [Hst.putL_no (by rw [hz]; decide)] at hL
    subst hL
    exact (hPut_lane h x hl).mono fun e w' ⟨he, hb⟩ => ⟨he, F, h.sans (E := fun _ => False) (Sans.of_below hb) (fun _ _ e => e), grows_below F hb⟩
  · by_cases hq : q ≤ (Hst.lane L x.l).length
    · have hp := Hst.putE_full hl hq
      rw [hz] at hp
      subst hp
      rw [Hst.putL_no (by rw [hz]; decide)] at hL
      subst hL
      exact (hPut_full h x hl hq).mono fun e w' ⟨he, hb⟩ => ⟨he, F, h.sans (E := fun _ => False) (Sans.of_below hb) (fun _ _ e => e), grows_below F hb⟩
    · have hp := Hst.putE_ok hl hq
      rw [hz] at hp
      subst hp
      rw [Hst.putL_yes hz] at hL
      subst hL
      exact hPut_ok h x hl hq
end
end Go.Proofs.YtniicgbkeifnjaaGreatDoor.K
namespace Go.Proofs.YtniicgbkeifnjaaGreatDoor.K
open Go.ChangeShapes Go.WideShapes Go.ChangeAt Go.RowKit
set_option linter.unusedVariables false
set_option maxRecDepth 100000
namespace Hst
def laid (xs : List Value) (o : Nat) : List Value → List Value
  | [] => xs
  | v :: vs => laid (xs.set o v) (o + 1) vs
theorem laid_length : ∀ (vs : List Value) (xs : List Value) (o : Nat), (laid xs o vs).length = xs.length
  | [], _, _ => rfl
  | v :: vs, xs, o => by rw [laid, laid_length vs, List.length_set]
theorem laid_at : ∀ (vs : List Value) (xs : List Value) (o j : Nat), o + vs.length ≤ xs.length → (laid xs o vs)[j]? = if o ≤ j ∧ j < o + vs.length then vs[j - o]? else xs[j]?
  | [], xs, o, j, h => by
    rw [laid, if_neg (fun e => by simp only [List.length_nil] at e; omega)]
  | v :: vs, xs, o, j, h => by
    simp only [List.length_cons] at h
    rw [laid, laid_at vs (xs.set o v) (o + 1) j (by rw [List.length_set]; omega)]
    simp only [List.length_cons]
    by_cases h1 : j = o
    · subst h1
      rw [if_neg (by omega), if_pos (by omega), List.getElem?_set_self (by omega)]
      simp
    · by_cases h2 : o + 1 ≤ j ∧ j < o + 1 + vs.length
      · rw [if_pos h2, if_pos (by omega), show j - o = (j - (o + 1)) + 1 by omega, List.getElem?_cons_succ]
      · rw [if_neg h2, if_neg (by omega), List.getElem?_set_ne (fun e => h1 e.symm)]
theorem owns_laid {base n size g cap : Nat} {e : TypeId} : ∀ (vs : List Value) (o : Nat) (w : World) (xs : List Value), w.ownsRow base e size (.slice (some ⟨g, 0, none⟩) n cap) n xs → (w.setCells g o vs).ownsRow base e size (.slice (some ⟨g, 0, none⟩) n cap) n (laid xs o vs)
  | [], _, _, _, h => h
  | v :: vs, o, w, xs, h => owns_laid vs (o + 1) (w.setCell ⟨g, o, none⟩ v) (xs.set o v) (h.stored o v).1
theorem sans_sets {F : Nat → Prop} (g : Nat) (hg : F g) : ∀ (vs : List Value) (o : Nat) (w : World), Sans F w (w.setCells g o vs)
  | [], _, w => Sans.refl F w
  | v :: vs, o, w => (Sans.of_set w ⟨g, o, none⟩ v hg).trans (sans_sets g hg vs (o + 1) (w.setCell ⟨g, o, none⟩ v)) (fun k hk => .inl hk)
theorem owns_cut4 {w : World} {base g cap n m : Nat} {e : TypeId} {xs : List Value} (h : w.ownsRow base e 4 (.slice (some ⟨g, 0, none⟩) n cap) n xs) (hm : m ≤ n) : w.ownsRow base e 4 (.slice (some ⟨g, 0, none⟩) m cap) m (xs.take (m * 4)) := by
  have hl := h.1
  refine ⟨by rw [List.length_take, hl]; omega, ?_⟩
  rcases h.2 with ⟨e, _⟩ | ⟨g', cp, cur, e, hb, hg, hnc, hcm, hcs, htake⟩
  · cases e
  · simp only [Value.slice.injEq, Option.some.injEq, Addr.mk.injEq, and_true, true_and] at e
    obtain ⟨rfl, rfl⟩ := e
    refine .inr ⟨g, cap, cur, rfl, hb, hg, by omega, hcm, hcs, ?_⟩
    rw [← htake, List.take_take]
    congr 1
    omega
theorem laid_first {xs news zs : List Value} {m : Nat} (h : xs.length = (m + 1) * 4) (hn : news.length = m * 4) (hz : zs.length = 4) : (laid (laid xs 0 news) (m * 4) zs).take (m * 4) = news := by
  apply List.ext_getElem?
  intro j
  rw [List.getElem?_take]
  by_cases hj : j < m * 4
  · rw [if_pos hj, laid_at _ _ _ _ (by rw [laid_length]; omega), if_neg (by omega), laid_at _ _ _ _ (by omega), if_pos (by omega), Nat.sub_zero]
  · rw [if_neg hj, List.getElem?_eq_none (by omega)]
end Hst
theorem hclear_any {P : Program} (w : World) (t e ty : TypeId) (z : Value) (ht : P.underlying t = some (.slice e)) (hv : ∀ w, (zeroValue e).run P w = .ok z w) (b o n c m : Nat) (hn : 0 < n) (hm : (Builtin.zeroCells z.cells n).toList.length = m)
    (h1 : ∀ x ∈ (Builtin.zeroCells z.cells n).toList, x.oneCell' = true) (hc : ∀ j, j < m → (w.cell? ⟨b, o + j, none⟩).isSome = true) (hf : ∀ j, j < m → w.frozen? ⟨b, o + j, none⟩ = false) :
    (Builtin.clear_ #[t] ty #[.slice (some ⟨b, o, none⟩) n c]).run P w = .ok (.tuple #[]) (w.setCells b o (Builtin.zeroCells z.cells n).toList) := by
  have hst := run_storeCells_cells (P := P) b o (Builtin.zeroCells z.cells n).toList 0 w (by rw [hm]; simpa using hc) (by rw [hm]; simpa using hf) h1
  simp only [Nat.add_zero] at hst
  obtain ⟨k, rfl⟩ : ∃ k, n = k + 1 := ⟨n - 1, by omega⟩
  simp [Builtin.clear_, run_underlying ht, hv, hst]
theorem hzeros_len : (Builtin.zeroCells (Value.agg #[.int .i64 0, .int .i64 0, .int .i64 0, .int .u32 0]).cells 1).toList.length = 4 := by
  simp [Builtin.zeroCells, Value.cells]
theorem hzeros_one : ∀ x ∈ (Builtin.zeroCells (Value.agg #[.int .i64 0, .int .i64 0, .int .i64 0, .int .u32 0]).cells 1).toList, x.oneCell' = true := by
  intro x hx
  rw [show (Builtin.zeroCells (Value.agg #[.int .i64 0, .int .i64 0, .int .i64 0, .int .u32 0]).cells 1).toList = [.int .i64 0, .int .i64 0, .int .i64 0, .int .u32 0] by kernel_rfl] at hx
  simp only [List.mem_cons, List.not_mem_nil, or_false] at hx
  rcases hx with rfl | rfl | rfl | rfl <;> rfl
theorem hcells_one (xs : List Pk) : ∀ u ∈ kcells xs, u.oneCell' = true := by
  intro u hu
  obtain ⟨x, _, hx⟩ := List.mem_flatMap.1 hu
  exact four_one _ _ _ _ u hx
theorem hkcells_cons (x : Pk) (r : List Pk) : kcells (x :: r) = [.int .i64 x.s, .int .i64 x.d, .int .i64 x.l, .int .u32 x.b] ++ kcells r := by simp [kcells]
set_option maxHeartbeats 2000000 in
set_option maxRecDepth 100000 in
theorem pdel_any {g cap m : Nat} {x : Pk} {r : List Pk} {w : World} (h : w.ownsRow 0 25 4 (.slice (some ⟨g, 0, none⟩) (m + 1) cap) (m + 1) (kcells (x :: r))) (hr : r.length = m) (hb : m ≤ 64) :
    Calls Tryz.prog 162 #[.slice (some ⟨g, 0, none⟩) (m + 1) cap, .int .i64 0, .int .i64 1] w fun e w' => e = .returned (.slice (some ⟨g, 0, none⟩) m cap) ∧ w'.ownsRow 0 25 4 (.slice (some ⟨g, 0, none⟩) m cap) m (kcells r) ∧ Sans (fun k => k = g) w w' := by
  obtain ⟨i0, hi0, hz0, hz1, hz2⟩ := info_parts infoPk
  have hcp := owns_cap h
  obtain ⟨hcn, hmx⟩ := hcp
  unfold maxLen at hmx
  have h0 : w.drew.ownsRow 0 25 4 (.slice (some ⟨g, 0, none⟩) (m + 1) cap) (m + 1) (kcells (x :: r)) := h
  obtain ⟨xs, hxs⟩ : ∃ xs, xs = kcells (x :: r) := ⟨_, rfl⟩
  obtain ⟨news, hnews⟩ : ∃ news, news = kcells r := ⟨_, rfl⟩
  obtain ⟨zs, hzs⟩ : ∃ zs, zs = (Builtin.zeroCells (Value.agg #[.int .i64 0, .int .i64 0, .int .i64 0, .int .u32 0]).cells 1).toList := ⟨_, rfl⟩
  have hzl : zs.length = 4 := by rw [hzs]; exact hzeros_len
  have hlen : xs.length = (m + 1) * 4 := by rw [hxs, kcells_length, List.length_cons, hr]
  have hnl : news.length = m * 4 := by rw [hnews, kcells_length, hr]
  have hat : ∀ t u, news[t]? = some u → xs[4 + t]? = some u := by
    intro t u hu
    rw [hxs, hkcells_cons, List.getElem?_append_right (by simp), ← hnews]
    simp only [List.length_cons, List.length_nil]
    rw [show 4 + t - (0 + 1 + 1 + 1 + 1) = t by omega]
    exact hu
  rw [← hxs] at h0
  have s1 : Hid (news.length = m * 4) := hnl
  have s2 : Hid (∀ u ∈ news, u.oneCell' = true) := by rw [hnews]; exact hcells_one r
  have s3 : Hid (∀ t, t < news.length → (w.drew.cell? ⟨g, 0 + 0 * 4 + t, none⟩).isSome = true ∧ w.drew.frozen? ⟨g, 0 + 0 * 4 + t, none⟩ = false) := by
    intro t ht
    rw [hnl] at ht
    refine ⟨?_, h0.frozenAt _⟩
    rw [show 0 + 0 * 4 + t = t by omega, h0.cellAt t (by omega), List.getElem?_eq_getElem (by omega)]
    rfl
  obtain ⟨W1, hW1⟩ : ∃ W1, W1 = w.drew.setCells g (0 + 0 * 4) news := ⟨_, rfl⟩
  have h1 : W1.ownsRow 0 25 4 (.slice (some ⟨g, 0, none⟩) (m + 1) cap) (m + 1) (Hst.laid xs 0 news) := by
    rw [hW1]
    exact Hst.owns_laid news 0 w.drew xs h0
  have hzv : ∀ w, (zeroValue 25).run Tryz.prog w = .ok (.agg #[.int .i64 0, .int .i64 0, .int .i64 0, .int .u32 0]) w := fun w => Tryz.zeroValue25 w
  have hcl : ∀ ty, (Builtin.clear_ #[65] ty #[.slice (some ⟨g, m * 4, none⟩) 1 (cap - m)]).run Tryz.prog W1 = .ok (.tuple #[]) (W1.setCells g (m * 4) zs) := by
    intro ty
    rw [hzs]
    refine hclear_any W1 _ 25 ty _ Tryz.underlying65 hzv g (m * 4) 1 _ 4 (by omega) hzeros_len hzeros_one (fun t ht => ?_) (fun t ht => h1.frozenAt _)
    rw [h1.cellAt (m * 4 + t) (by omega), List.getElem?_eq_getElem (by rw [Hst.laid_length, hlen]; omega)]
    rfl
  have HE : Hid ((W1.setCells g (m * 4) zs).ownsRow 0 25 4 (.slice (some ⟨g, 0, none⟩) m cap) m (kcells r) ∧ Sans (fun k => k = g) w (W1.setCells g (m * 4) zs)) := by
    refine ⟨?_, ?_⟩
    · have h2 := Hst.owns_cut4 (Hst.owns_laid zs (m * 4) W1 _ h1) (m := m) (by omega)
      rw [Hst.laid_first hlen hnl hzl, hnews] at h2
      exact h2
    · refine Sans.trans (F := fun k => k = g) (w1 := W1) ?_ (Hst.sans_sets (F := fun k => k = g) g rfl _ _ W1) (fun k hk => .inl hk)
      rw [hW1]
      exact Sans.trans (F := fun k => k = g) (w1 := w.drew) (Sans.of_below (drewN_below w 1)) (Hst.sans_sets (F := fun k => k = g) g rfl news _ w.drew) (fun k hk => .inl hk)
  have HW : Hid (W1 = w.drew.setCells g (0 + 0 * 4) news) := hW1
  have hd1 : m + 1 - m = 1 := by omega
  have hmc : m ≤ cap := by omega
  have hmc1 : m + 1 ≤ cap := by omega
  have hne : ¬ cap = m := by omega
  have hi1 : (1 : Int) ≤ (m : Int) + 1 := by omega
  by_cases hc1 : cap = 1
  · have hm0 : m = 0 := by omega
    have hnil : news.length = 0 := by rw [hnl, hm0]
    have hsrc : Hid (∀ t u, news[t]? = some u → w.drew.cell? ((⟨g, 0, none⟩ : Addr).add t) = some u) := by
      intro t u hu
      have := (List.getElem?_eq_some_iff.1 hu).1
      omega
    subst hc1
    clear hW1 h1 h0 hnews hnl hxs h hlen hat hzv hzl hzs hnil hmx hcn
    subst hm0
    go_enter Tryz.func162, Tryz.ntmps162
    go_wp2_with fail
    go_region_law (refine step_append_room rfl (.tmp 22) (.tmp 25) 65 rfl 25 i0 4 Tryz.underlying65 hi0 hz1 g 0 0 1 (by simp [Act.eval, Act.put]) ⟨g, 0, none⟩ 0 (1 - 1) news (by simp [Act.eval, Act.put]) s1.out hsrc.out s2.out (by omega) s3.out ?_; rw [← HW.out])
    go_wp2
    go_ret
    exact ⟨rfl, HE.out⟩
  · have hsrc : Hid (∀ t u, news[t]? = some u → w.drew.cell? ((⟨g, 4, none⟩ : Addr).add t) = some u) := by
      intro t u hu
      have ht : t < m * 4 := by
        have := (List.getElem?_eq_some_iff.1 hu).1
        omega
      rw [Addr.add_lit, h0.cellAt (4 + t) (by omega)]
      exact hat t u hu
    clear hW1 h1 h0 hnews hnl hxs h hlen hat hzv hzl hzs
    go_enter Tryz.func162, Tryz.ntmps162
    go_wp2_with fail
    go_region_law (refine step_append_room rfl (.tmp 22) (.tmp 25) 65 rfl 25 i0 4 Tryz.underlying65 hi0 hz1 g 0 0 cap (by simp [Act.eval, Act.put]) ⟨g, 4, none⟩ m (cap - 1) news (by simp [Act.eval, Act.put]) s1.out hsrc.out s2.out (by omega) s3.out ?_; rw [← HW.out])
    go_wp2
    go_ret
    exact ⟨rfl, HE.out⟩
end Go.Proofs.YtniicgbkeifnjaaGreatDoor.K
