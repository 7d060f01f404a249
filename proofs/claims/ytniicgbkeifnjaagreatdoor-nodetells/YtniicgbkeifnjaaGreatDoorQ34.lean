/-
  Contracts and plain facts that the walks lean on (NodeE, NodeR, NodeS, NodeT). Conditions: none but those that each states.
-/
import Derived.Test.YtniicgbkeifnjaaGreatDoorQ33
namespace Go.Proofs.YtniicgbkeifnjaaGreatDoor
open Go.ChangeShapes Go.WideShapes Go.ChangeAt Go.RowKit
set_option linter.unusedVariables false
set_option maxRecDepth 100000
namespace Nd
section
variable {w w' : World} {p : Nat} {n h : Int} {R : Nat}
theorem nfree_any (k : Bf.Rcv w p n (R : Nat) h) :
    Calls Tryz.prog 175 #[.pointer (some ⟨p, 0, none⟩)] w fun e w' => AnyB e ∧ Bf.Rcv w' p (rFree (n, h)).1 (R : Nat) (rFree (n, h)).2 ∧ Sans (fun j => j = p) w w' := by
  have h0 := k.h0
  by_cases hz : h = 0
  · subst hz
    have e : rFree (n, 0) = (n, 0) := if_pos rfl
    rw [e]
    exact (Bf.free_none k).mono fun e w' ⟨he, hw⟩ => ⟨⟨_, he⟩, by rw [hw]; exact k, by rw [hw]; exact Sans.refl _ _⟩
  · have e : rFree (n, h) = (n, h - 1) := if_neg hz
    rw [e]
    exact (Bf.free_some k (by omega)).mono fun e w' ⟨he, hk, hs⟩ => ⟨⟨_, he⟩, hk, hs⟩
theorem ncome_any (k : Bf.Rcv w p n (R : Nat) h) (hn : n ≤ 9223372036854775000) (x : Int) (hx : 0 ≤ x ∧ x ≤ 65535) :
    Calls Tryz.prog 138 #[.pointer (some ⟨p, 0, none⟩), .int .u16 x] w fun e w' => e = .returned (.int .u16 (rComeE R (n, h) x)) ∧ Bf.Rcv w' p (rCome R (n, h) x).1 (R : Nat) (rCome R (n, h) x).2 ∧ Sans (fun j => j = p) w w' := by
  by_cases h1 : widI n x < n
  · have e1 : rComeE R (n, h) x = 60 := if_pos h1
    have e2 : rCome R (n, h) x = (n, h) := if_neg (by rw [e1]; decide)
    rw [e1, e2]
    exact Bf.come_stale k (by omega) x hx _ rfl h1
  · by_cases h2 : n + ((R : Int) - h) ≤ widI n x
    · have e1 : rComeE R (n, h) x = 61 := by unfold rComeE; rw [if_neg h1, if_pos h2]
      have e2 : rCome R (n, h) x = (n, h) := if_neg (by rw [e1]; decide)
      rw [e1, e2]
      exact Bf.come_over k (by omega) x hx _ rfl h2
    · have e1 : rComeE R (n, h) x = 0 := by unfold rComeE; rw [if_neg h1, if_neg h2]
      have e2 : rCome R (n, h) x = (widI n x + 1, h + 1) := if_pos e1
      rw [e1, e2]
      exact Bf.come_ok k (by omega) x hx _ rfl ⟨by omega, by omega⟩
theorem nhear_any (k : Bf.Rcv w p n (R : Nat) h) (hn : n ≤ 9223372036854775000) (x : Int) (hx : 0 ≤ x ∧ x ≤ 65535) :
    Calls Tryz.prog 82 #[.pointer (some ⟨p, 0, none⟩), .int .u16 x] w fun e w' => AnyB e ∧ Bf.Rcv w' p (rHear R (n, h) x).1 (R : Nat) (rHear R (n, h) x).2 ∧ Sans (fun j => j = p) w w' := by
  by_cases h1 : n < widI n x ∧ widI n x ≤ n + ((R : Int) - h)
  · have e : rHear R (n, h) x = (widI n x, h) := if_pos h1
    rw [e]
    exact (Bf.hear_yes k (by omega) x hx _ rfl h1).mono fun e w' ⟨he, hk, hs⟩ => ⟨⟨_, he⟩, hk, hs⟩
  · have e : rHear R (n, h) x = (n, h) := if_neg h1
    rw [e]
    exact (Bf.hear_no k (by omega) x hx _ rfl (by omega)).mono fun e w' ⟨he, hk, hs⟩ => ⟨⟨_, he⟩, hk, hs⟩
end
def NAt (w : World) (F : Nat → Prop) (p : Nat) (c : Cfg) (s : St) (m : Nat) : Prop := ∃ FH FR B ph pr, B .p = p ∧ NIn w F FH FR B ph pr c s m
section
variable {w w' : World} {F E : Nat → Prop} {p m m' : Nat} {c : Cfg} {s : St}
theorem NAt.foot (h : NAt w F p c s m) : ∀ k, F k → k < w.heap.size := by
  obtain ⟨FH, FR, B, ph, pr, e, h⟩ := h
  exact h.foot
theorem NAt.zero (h : NAt w F p c s m) : ¬ F 0 := by
  obtain ⟨FH, FR, B, ph, pr, e, h⟩ := h
  exact h.zero
theorem NAt.self (h : NAt w F p c s m) : F p := by
  obtain ⟨FH, FR, B, ph, pr, e, h⟩ := h
  exact e ▸ (h.own .p trivial).1
theorem NAt.cfg (h : NAt w F p c s m) : CfgOk c := by
  obtain ⟨FH, FR, B, ph, pr, e, h⟩ := h
  exact h.cfg
theorem NAt.sans (h : NAt w F p c s m) (k : Sans E w w') (hd : ∀ k, F k → ¬ E k) : NAt w' F p c s m := by
  obtain ⟨FH, FR, B, ph, pr, e, h⟩ := h
  exact ⟨FH, FR, B, ph, pr, e, h.sans k hd⟩
theorem NAt.below (h : NAt w F p c s m) (k : Below w.heap.size w w') : NAt w' F p c s m := h.sans (E := fun _ => False) (Sans.of_below k) (fun _ _ e => e)
theorem NAt.mono (h : NAt w F p c s m) (k : m ≤ m') : NAt w F p c s m' := by
  obtain ⟨FH, FR, B, ph, pr, e, h⟩ := h
  exact ⟨FH, FR, B, ph, pr, e, h.mono k⟩
end
def TickAt (Z : Nat → Prop) (w0 : World) (F0 : Nat → Prop) (w : World) (F : Nat → Prop) (p : Nat) (c : Cfg) (s : St) (m bx : Nat) (os : Outs) : Prop :=
  ∃ v G, NAt w F p c s m ∧ w.cell? ⟨bx, 0, none⟩ = some v ∧ w.frozen? ⟨bx, 0, none⟩ = false ∧ OutsAt w G v os ∧ ¬ G bx ∧ (∀ j, G j → ¬ F j ∧ w0.heap.size ≤ j) ∧ ¬ F bx ∧ w0.heap.size ≤ bx ∧ Sans F0 w0 w ∧ (∀ j, F j → F0 j ∨ w0.heap.size ≤ j) ∧ ∀ j, Z j → j < w.heap.size ∧ ¬ F j ∧ ¬ G j ∧ j ≠ bx
section
variable {Z Z' F0 F F' : Nat → Prop} {w0 w w' : World} {p m m' bx : Nat} {c : Cfg} {s s' : St} {os : Outs}
theorem TickAt.node (T : TickAt Z w0 F0 w F p c s m bx os) : NAt w F p c s m := by
  obtain ⟨v, G, h, _⟩ := T
  exact h
theorem TickAt.mono (T : TickAt Z w0 F0 w F p c s m bx os) (k : m ≤ m') : TickAt Z w0 F0 w F p c s m' bx os := by
  obtain ⟨v, G, h, r⟩ := T
  exact ⟨v, G, h.mono k, r⟩
theorem TickAt.on (T : TickAt Z w0 F0 w F p c s m bx os) (k : Below w.heap.size w w') : TickAt Z w0 F0 w' F p c s m bx os := by
  obtain ⟨v, G, h1, h2, h3, h4, h5, h6, h7, h8, h9, h10, h11⟩ := T
  have hb := cell_lt h2
  exact ⟨v, G, h1.below k, (k.cell (p := ⟨bx, 0, none⟩) hb).trans h2, (k.frozen (p := ⟨bx, 0, none⟩) hb).trans h3, h4.below k, h5, h6, h7, h8, h9.then (Sans.of_below k), h10, fun j hj => ⟨Nat.lt_of_lt_of_le (h11 j hj).1 k.size, (h11 j hj).2⟩⟩
theorem TickAt.wider (T : TickAt Z w0 F0 w F p c s m bx os) (k : Below w.heap.size w w') (hZ : ∀ j, Z' j → Z j ∨ (w.heap.size ≤ j ∧ j < w'.heap.size)) : TickAt Z' w0 F0 w' F p c s m bx os := by
  have T2 := T.on k
  obtain ⟨v, G, h1, h2, h3, h4, h5, h6, h7, h8, h9, h10, h11⟩ := T2
  obtain ⟨v2, G2, g1, g2, g3, g4, g5, g6, g7, g8, g9, g10, g11⟩ := T
  have hb := cell_lt g2
  refine ⟨v2, G2, h1, (k.cell (p := ⟨bx, 0, none⟩) hb).trans g2, h3, g4.below k, g5, g6, h7, h8, h9, h10, fun j hj => ?_⟩
  rcases hZ j hj with e | ⟨e1, e2⟩
  · exact ⟨Nat.lt_of_lt_of_le (g11 j e).1 k.size, (g11 j e).2⟩
  · exact ⟨e2, fun e => by have := g1.foot j e; omega, fun e => by have := g4.foot j e; omega, fun e => by have : bx < w.heap.size := hb; omega⟩
theorem TickAt.less (T : TickAt Z w0 F0 w F p c s m bx os) (hZ : ∀ j, Z' j → Z j) : TickAt Z' w0 F0 w F p c s m bx os := T.wider (Below.refl _ _) (fun j hj => .inl (hZ j hj))
theorem TickAt.turn (T : TickAt Z w0 F0 w F p c s m bx os) (h : NAt w' F' p c s' m') (k : K.Grows F w F' w') : TickAt Z w0 F0 w' F' p c s' m' bx os ∧ Sans (fun j => ¬ Z j) w w' := by
  obtain ⟨v, G, h1, h2, h3, h4, h5, h6, h7, h8, h9, h10, h11⟩ := T
  obtain ⟨ks, kg⟩ := k
  have hb : bx < w.heap.size := cell_lt h2
  have hw : w0.heap.size ≤ w.heap.size := h9.size
  refine ⟨⟨v, G, h, (ks.cell (p := ⟨bx, 0, none⟩) hb h7).trans h2, (ks.frozen (p := ⟨bx, 0, none⟩) hb h7).trans h3, h4.sans ks (fun j hj => (h6 j hj).1), h5, fun j hj => ⟨fun e => (kg j e).elim (h6 j hj).1 (fun e => by have := h4.foot j hj; omega), (h6 j hj).2⟩, fun e => (kg bx e).elim h7 (fun e => by omega), h8,
    h9.trans ks (fun j hj => h10 j hj), fun j hj => (kg j hj).elim (h10 j) (fun e => .inr (by omega)), fun j hj => ⟨Nat.lt_of_lt_of_le (h11 j hj).1 ks.size, fun e => (kg j e).elim (h11 j hj).2.1 (fun e => by have := (h11 j hj).1; omega), (h11 j hj).2.2⟩⟩, ks.mono (fun j hj e => (h11 j e).2.1 hj)⟩
theorem TickAt.lay (T : TickAt Z w0 F0 w F p c s m bx os) (hos : os.length ≤ 1000) (a0 lv : Value) (dst : Int) {f : Wire.Fr} (hok : f.ok) :
    Calls Tryz.prog 45 #[.agg #[a0, .int .i64 dst, lv], fr f, .pointer (some ⟨bx, 0, none⟩)] w fun e w' => e = .returned (.tuple #[]) ∧ TickAt Z w0 F0 w' F p c s m bx (os ++ [(dst, bytesOf f)]) ∧ Sans (fun j => ¬ Z j) w w' := by
  obtain ⟨v, G, h1, h2, h3, h4, h5, h6, h7, h8, h9, h10, h11⟩ := T
  refine (lay_any h2 h3 h4 h5 hos a0 lv dst hok).mono ?_
  rintro e w' ⟨he, v', G', k1, k2, k3, k4, k5⟩
  have hb : bx < w.heap.size := cell_lt h2
  have hw : w0.heap.size ≤ w.heap.size := h9.size
  have hE : ∀ j, (j = bx ∨ G j) → w0.heap.size ≤ j := fun j hj => hj.elim (fun e => by omega) (fun e => (h6 j e).2)
  refine ⟨he, ⟨v', G', h1.sans k5 (fun j hj e => e.elim (fun e => h7 (e ▸ hj)) (fun e => (h6 j e).1 hj)), k1, k2, k3, fun e => (k4 bx e).elim h5 (fun e => by omega), fun j hj => (k4 j hj).elim (h6 j) (fun e => ⟨fun e2 => by have := h1.foot j e2; omega, by omega⟩), h7, h8, h9.trans k5 (fun j hj => .inr (hE j hj)), h10, fun j hj => ⟨Nat.lt_of_lt_of_le (h11 j hj).1 k5.size, (h11 j hj).2.1, fun e => (k4 j e).elim (h11 j hj).2.2.1 (fun e => by have := (h11 j hj).1; omega), (h11 j hj).2.2.2⟩⟩, k5.mono (fun j hj e => hj.elim (h11 j e).2.2.2 (h11 j e).2.2.1)⟩
end
end Nd
end Go.Proofs.YtniicgbkeifnjaaGreatDoor
namespace Go.Proofs.YtniicgbkeifnjaaGreatDoor
open Go.ChangeShapes Go.WideShapes Go.ChangeAt Go.RowKit
set_option linter.unusedVariables false
set_option maxRecDepth 100000
namespace Nd
theorem place_one (u : Int) : ∀ (l : List Int) (k : Nat), Plan.place u l k = -1 ∨ 1 ≤ Plan.place u l k
  | [], k => .inl rfl
  | y :: r, k => by
    unfold Plan.place
    split
    · right; omega
    · exact place_one u r (k + 1)
theorem place_le (u : Int) : ∀ (l : List Int) (k : Nat), Plan.place u l k ≤ ((k + l.length : Nat) : Int)
  | [], k => by unfold Plan.place; omega
  | y :: r, k => by
    unfold Plan.place
    split
    · simp only [List.length_cons]; omega
    · have := place_le u r (k + 1)
      simp only [List.length_cons]
      omega
theorem asc_len : ∀ (l : List Int) (a n : Int), Plan.Asc l → (∀ x ∈ l, a ≤ x ∧ x < n) → a ≤ n → (l.length : Int) ≤ n - a
  | [], a, n, _, _, h => by simp; omega
  | y :: r, a, n, hs, hb, h => by
    have hy := hb y List.mem_cons_self
    have hs2 := List.pairwise_cons.1 hs
    have := asc_len r (y + 1) n hs2.2 (fun x hx => ⟨by have := hs2.1 x hx; omega, (hb x (List.mem_cons_of_mem _ hx)).2⟩) (by omega)
    simp only [List.length_cons]
    omega
theorem asc_len' (v : Int) : ∀ (l : List Int) (a n : Int), Plan.Asc l → (∀ x ∈ l, a ≤ x ∧ x < n ∧ x ≠ v) → a ≤ v → v < n → (l.length : Int) ≤ n - a - 1
  | [], a, n, _, _, h1, h2 => by simp; omega
  | y :: r, a, n, hs, hb, h1, h2 => by
    have hy := hb y List.mem_cons_self
    have hs2 := List.pairwise_cons.1 hs
    have hr : ∀ x ∈ r, y + 1 ≤ x ∧ x < n ∧ x ≠ v := fun x hx => ⟨by have := hs2.1 x hx; omega, (hb x (List.mem_cons_of_mem _ hx)).2⟩
    simp only [List.length_cons]
    by_cases e : y < v
    · have := asc_len' v r (y + 1) n hs2.2 hr (by omega) h2
      omega
    · have := asc_len r (y + 1) n hs2.2 (fun x hx => ⟨(hr x hx).1, (hr x hx).2.1⟩) (by omega)
      omega
theorem bnd_iff {z lo hi : Int} : Plan.bnd z lo hi = true ↔ lo ≤ z ∧ z ≤ hi := by
  unfold Plan.bnd
  simp
theorem newok {p : PV} {es : List (Int × Int)} {ws : List Int} {rs : List (List Int)} {v : Nat} (hm : Plan.may p.num es ws (rs.map List.length) = true) (hb : ¬ Route.Bad p.nodes es rs) (hv : (v : Int) < p.nodes) (hs : 0 ≤ p.start ∧ p.start ≤ 65535) : ∃ n, NewOk p es ws rs n v := by
  obtain ⟨n, mn⟩ := may_n hm
  have hn := mn.nodes
  have hvn : v < n := by omega
  unfold Plan.may at hm
  simp only [Bool.and_eq_true, decide_eq_true_eq] at hm
  obtain ⟨⟨⟨⟨⟨h1, _⟩, h3⟩, h4⟩, _⟩, _⟩ := hm
  unfold Plan.fine at h1
  simp only [Bool.and_eq_true, bnd_iff] at h1
  obtain ⟨⟨⟨⟨⟨⟨_, l1⟩, l2⟩, l3⟩, l4⟩, l5⟩, _⟩ := h1
  have hport : ∀ d, d < n → d ≠ v → 1 ≤ Plan.port es v (Route.nx rs v d) := fun d hd hne => by
    rcases place_one (Route.nx rs v d) (Plan.bes es v) 0 with h | h
    · exfalso
      refine hb (.inl ⟨v, d, hv, by omega, fun e => hne e.symm, ?_⟩)
      exact Route.go_no (fun e => hne (by omega)) (by show Plan.place _ _ 0 < 0; rw [h]; decide)
    · exact h
  have h5 := asc_len' v (Plan.bes es v) 0 n (Plan.bes_asc es v) (fun x hx => ⟨(mn.in_bes hx).1, (mn.in_bes hx).2, ((Plan.mem_bes es v x).1 hx).1⟩) (by omega) (by omega)
  have two := mn.two
  refine ⟨n, mn, hvn, l1, l2, l3, l4, l5, hs, h3, h4, hport, by omega, ?_⟩
  rcases Nat.eq_zero_or_pos (Plan.bes es v).length with e | e
  · exfalso
    have hd : ∃ d, d < n ∧ d ≠ v := by
      by_cases e0 : v = 0
      · exact ⟨1, by omega, by omega⟩
      · exact ⟨0, by omega, fun e => e0 e.symm⟩
    obtain ⟨d, d1, d2⟩ := hd
    have := hport d d1 d2
    have hl : Plan.bes es v = [] := List.length_eq_zero_iff.1 e
    unfold Plan.port at this
    rw [hl] at this
    unfold Plan.place at this
    omega
  · exact e
theorem cfg_ok {p : PV} {es : List (Int × Int)} {ws : List Int} {rs : List (List Int)} {n v : Nat} (h : NewOk p es ws rs n v) : CfgOk (cfgOf p es ws rs v) := by
  have hn := h.mn.nodes
  have two := h.mn.two
  have vn := h.vn
  have h1 := h.lanes
  have h2 := h.room
  have h3 := h.queue
  have h4 := h.rounds
  have h5 := h.every
  have b5 := h.bs5
  have b1 := h.bs1
  refine ⟨?_, ?_, ?_, ?_, ?_, ?_, ?_, ?_, ?_, fun d hd => ?_, fun x hx => ?_⟩
  · show 1 ≤ p.lanes.toNat ∧ p.lanes.toNat ≤ 3; omega
  · show 1 ≤ p.room.toNat ∧ p.room.toNat ≤ 8; omega
  · show 1 ≤ p.queue.toNat ∧ p.queue.toNat ≤ 8; omega
  · show 1 ≤ p.rounds.toNat ∧ p.rounds.toNat ≤ 4; omega
  · show 1 ≤ p.every.toNat ∧ p.every.toNat ≤ 8; omega
  · show 2 ≤ p.nodes.toNat ∧ p.nodes.toNat ≤ 6; omega
  · show (Plan.bes es v).length + 1 ≤ 6; omega
  · show 2 ≤ (Plan.bes es v).length + 1; omega
  · show v < p.nodes.toNat; omega
  · show wayOf es rs v d < (Plan.bes es v).length + 1
    unfold wayOf
    split
    · omega
    · have := place_le (Route.nx rs v d) (Plan.bes es v) 0
      unfold Plan.port
      omega
  · have hx' : x ∈ Plan.bes es v := hx
    have h6 := h.mn.in_bes hx'
    have h7 := ((Plan.mem_bes es v x).1 hx').1
    show 0 ≤ x ∧ x < ((p.nodes.toNat : Nat) : Int) ∧ x ≠ ((v : Nat) : Int)
    refine ⟨h6.1, by omega, h7⟩
theorem st_ok {c : Cfg} {start : Nat} (h : start ≤ 65535) : StOk c (st0 c start) 0 := by
  refine ⟨fun i k _ _ _ => ?_, fun i k _ _ _ => ?_, Nat.le_refl _, Nat.le_refl _, fun x hx => ?_, fun q x hx => ?_⟩
  · show ((start : Nat) : Int) ≤ _
    omega
  · show ((start : Nat) : Int) ≤ _
    omega
  · have : x ∈ ([] : List Pk) := hx
    cases this
  · have : x ∈ ([] : List Pk) := hx
    cases this
section
variable {w w' : World} {E : Nat → Prop} {base L k : Nat} {wt : Nat → Int} {st rm v0 : Int} {bs : List Int} {v v' : Value} {r : Nat → PB} {ps : List PRow}
theorem Parts.low (h : Parts w base L wt st rm v0 bs k v r ps) {i : Nat} (hi : i ≤ k) : base ≤ (r i).lo := by
  induction i with
  | zero => exact h.lo0
  | succ i ih =>
    have h1 := ih (by omega)
    have h2 := h.good i (by omega)
    have h3 := h.lohi i (by omega)
    have := h2.o1
    have := h2.o2
    omega
theorem Parts.keep (h : Parts w base L wt st rm v0 bs k v r ps) (S : Sans E w w') (hE : ∀ j, base ≤ j → ¬ E j) : Parts w' base L wt st rm v0 bs k v r ps := by
  refine ⟨h.len, ownsRow_sans h.own S (fun g e => ?_), h.at0, h.atk, fun i hi => (h.good i hi).sans S (fun j h1 _ => hE j (Nat.le_trans (h.low hi) h1)), fun i h1 h2 => (h.lane i h1 h2).sans S (fun j h3 _ => hE j (Nat.le_trans (h.low h2) h3)), h.lo0, h.lohi, h.vb⟩
  rcases h.own.2 with ⟨_, h0⟩ | ⟨g', cp, cur, e2, hb, _⟩
  · omega
  · rw [e2] at e
    cases e
    exact hE _ hb
theorem Parts.chain (h : Parts w base L wt st rm v0 bs k v r ps) {i j : Nat} (hij : i < j) (hj : j ≤ k) : (r i).hi ≤ (r j).lo := by
  induction j with
  | zero => omega
  | succ j ih =>
    by_cases e : i = j
    · subst e; exact h.lohi i (by omega)
    · have h1 := ih (by omega) (by omega)
      have h2 := h.good j (by omega)
      have h3 := h.lohi j (by omega)
      have := h2.o1
      have := h2.o2
      omega
theorem Parts.disj (h : Parts w base L wt st rm v0 bs k v r ps) {i j z : Nat} (hi : i ≤ k) (hj : j ≤ k) (zi : (r i).lo ≤ z ∧ z < (r i).hi) (zj : (r j).lo ≤ z ∧ z < (r j).hi) : i = j := by
  rcases Nat.lt_trichotomy i j with e | e | e
  · have := h.chain e hj; omega
  · exact e
  · have := h.chain e hi; omega
end
def newB (q pb wb pa ga aa : Nat) (r : Nat → PB) : Lb → Nat
  | ⟨0, _, _⟩ => q
  | ⟨1, _, _⟩ => pb
  | ⟨2, _, _⟩ => wb
  | ⟨3, i, _⟩ => (r i).wq
  | ⟨4, i, _⟩ => (r i).xb
  | ⟨5, i, _⟩ => (r i).fb
  | ⟨6, i, _⟩ => (r i).lb
  | ⟨7, i, k⟩ => (r i).sq k
  | ⟨8, i, k⟩ => (r i).rq k
  | ⟨9, _, _⟩ => pa
  | ⟨10, _, _⟩ => ga
  | ⟨_, _, _⟩ => aa
def Lb.idx : Lb → Option Nat
  | ⟨3, i, _⟩ => some i
  | ⟨4, i, _⟩ => some i
  | ⟨5, i, _⟩ => some i
  | ⟨6, i, _⟩ => some i
  | ⟨7, i, _⟩ => some i
  | ⟨8, i, _⟩ => some i
  | _ => none
theorem Lb.withIdx {c : Cfg} {x : Lb} (h : x.ok c) {i : Nat} (e : x.idx = some i) : x = .wq i ∨ x = .xb i ∨ x = .fb i ∨ x = .lb i ∨ (∃ k, x = .sq i k) ∨ ∃ k, x = .rq i k := by
  rcases Lb.forms h with rfl | rfl | rfl | ⟨j, rfl⟩ | ⟨j, rfl⟩ | ⟨j, rfl⟩ | ⟨j, rfl⟩ | ⟨j, k, rfl⟩ | ⟨j, k, rfl⟩ | rfl | rfl | rfl
  · exact absurd (show (none : Option Nat) = some i from e) (by simp)
  · exact absurd (show (none : Option Nat) = some i from e) (by simp)
  · exact absurd (show (none : Option Nat) = some i from e) (by simp)
  · obtain rfl : j = i := Option.some.inj e
    exact .inl rfl
  · obtain rfl : j = i := Option.some.inj e
    exact .inr (.inl rfl)
  · obtain rfl : j = i := Option.some.inj e
    exact .inr (.inr (.inl rfl))
  · obtain rfl : j = i := Option.some.inj e
    exact .inr (.inr (.inr (.inl rfl)))
  · obtain rfl : j = i := Option.some.inj e
    exact .inr (.inr (.inr (.inr (.inl ⟨k, rfl⟩))))
  · obtain rfl : j = i := Option.some.inj e
    exact .inr (.inr (.inr (.inr (.inr ⟨k, rfl⟩))))
  · exact absurd (show (none : Option Nat) = some i from e) (by simp)
  · exact absurd (show (none : Option Nat) = some i from e) (by simp)
  · exact absurd (show (none : Option Nat) = some i from e) (by simp)
theorem Lb.noIdx {c : Cfg} {x : Lb} (h : x.ok c) (e : x.idx = none) : x = .p ∨ x = .pb ∨ x = .wb ∨ x = .pa ∨ x = .ga ∨ x = .aa := by
  rcases Lb.forms h with rfl | rfl | rfl | ⟨j, rfl⟩ | ⟨j, rfl⟩ | ⟨j, rfl⟩ | ⟨j, rfl⟩ | ⟨j, k, rfl⟩ | ⟨j, k, rfl⟩ | rfl | rfl | rfl
  · exact .inl rfl
  · exact .inr (.inl rfl)
  · exact .inr (.inr (.inl rfl))
  · exact absurd (show some j = none from e) (by simp)
  · exact absurd (show some j = none from e) (by simp)
  · exact absurd (show some j = none from e) (by simp)
  · exact absurd (show some j = none from e) (by simp)
  · exact absurd (show some j = none from e) (by simp)
  · exact absurd (show some j = none from e) (by simp)
  · exact .inr (.inr (.inr (.inl rfl)))
  · exact .inr (.inr (.inr (.inr (.inl rfl))))
  · exact .inr (.inr (.inr (.inr (.inr rfl))))
section
variable {Z : World} {base L K q pb cp wb pa ga aa z1 z2 z3 z4 : Nat} {wt : Nat → Int} {st rm v0 : Int} {bs : List Int} {r : Nat → PB} {ps : List PRow}
theorem idx_in (h : Parts Z base L wt st rm v0 bs K (.slice (some ⟨pb, 0, none⟩) (K + 1) cp) r ps) {c : Cfg} (hP : c.P = K + 1) (hL : c.L = L) (x : Lb) (hx : x.ok c) (i : Nat) (e : x.idx = some i) : i ≤ K ∧ (r i).lo ≤ newB q pb wb pa ga aa r x ∧ newB q pb wb pa ga aa r x < (r i).hi := by
  rcases Lb.withIdx hx e with rfl | rfl | rfl | rfl | ⟨k, rfl⟩ | ⟨k, rfl⟩
  · have hx' : i < c.P := hx; have g := h.good i (by omega); have := g.o1; have := g.iq; exact ⟨by omega, by show _ ≤ (r i).wq; omega, by show (r i).wq < _; omega⟩
  · have hx' : i < c.P := hx; have g := h.good i (by omega); have := g.o1; have := g.ix; exact ⟨by omega, by show _ ≤ (r i).xb; omega, by show (r i).xb < _; omega⟩
  · have hx' : i < c.P := hx; have g := h.good i (by omega); have := g.o1; have := g.jf; exact ⟨by omega, by show _ ≤ (r i).fb; omega, by show (r i).fb < _; omega⟩
  · have hx' : 1 ≤ i ∧ i < c.P := hx; have g := h.good i (by omega); have l := h.lane i hx'.1 (by omega); have := g.o2; have := l.blo; have := l.bmid; exact ⟨by omega, by show _ ≤ (r i).lb; omega, by show (r i).lb < _; omega⟩
  · have hx' : 1 ≤ i ∧ i < c.P ∧ k < c.L := hx; have g := h.good i (by omega); have l := h.lane i hx'.1 (by omega); have := g.o2; have := l.blo; have := l.si k (by omega); exact ⟨by omega, by show _ ≤ (r i).sq k; omega, by show (r i).sq k < _; omega⟩
  · have hx' : 1 ≤ i ∧ i < c.P ∧ k < c.L := hx; have g := h.good i (by omega); have l := h.lane i hx'.1 (by omega); have := g.o2; have := l.blo; have := l.si k (by omega); exact ⟨by omega, by show _ ≤ (r i).rq k; omega, by show (r i).rq k < _; omega⟩
theorem idx_same (h : Parts Z base L wt st rm v0 bs K (.slice (some ⟨pb, 0, none⟩) (K + 1) cp) r ps) {c : Cfg} (hP : c.P = K + 1) (hL : c.L = L) (x y : Lb) (hx : x.ok c) (hy : y.ok c) (i : Nat) (e : x.idx = some i) (e' : y.idx = some i) (hb : newB q pb wb pa ga aa r x = newB q pb wb pa ga aa r y) : x = y := by
  have hi := (idx_in (q := q) (wb := wb) (pa := pa) (ga := ga) (aa := aa) h hP hL x hx i e).1
  have g := h.good i hi
  have l := h.lane i
  have g1 := g.iq
  have g2 := g.ix
  have g3 := g.jf
  have n1 := g.whl.px
  have n2 := g.whl.pf
  have n3 := g.whl.xf
  have hs : ∀ a, (Lb.sq i a).ok c → 1 ≤ i ∧ i < c.P ∧ a < L := fun a h => by rw [← hL]; exact h
  have hr : ∀ a, (Lb.rq i a).ok c → 1 ≤ i ∧ i < c.P ∧ a < L := fun a h => by rw [← hL]; exact h
  have hlb : (Lb.lb i).ok c → 1 ≤ i ∧ i < c.P := fun h => h
  rcases Lb.withIdx hx e with rfl | rfl | rfl | rfl | ⟨a, rfl⟩ | ⟨a, rfl⟩ <;> rcases Lb.withIdx hy e' with rfl | rfl | rfl | rfl | ⟨b, rfl⟩ | ⟨b, rfl⟩
  all_goals try rfl
  all_goals try replace hx := hs _ hx
  all_goals try replace hy := hs _ hy
  all_goals try replace hx := hr _ hx
  all_goals try replace hy := hr _ hy
  all_goals try replace hx := hlb hx
  all_goals try replace hy := hlb hy
  all_goals first
    | (have hb' : (r i).sq a = (r i).sq b := hb
       have ll := l hx.1 hi
       by_cases e : a = b
       · rw [e]
       · exact absurd hb' ((ll.ne a b hx.2.2 hy.2.2).2 e).1)
    | (have hb' : (r i).rq a = (r i).rq b := hb
       have ll := l hx.1 hi
       by_cases e : a = b
       · rw [e]
       · exact absurd hb' ((ll.ne a b hx.2.2 hy.2.2).2 e).2)
    | (have hb' : (r i).sq a = (r i).rq b := hb
       have ll := l hx.1 hi
       exact absurd hb' (ll.ne a b hx.2.2 hy.2.2).1)
    | (have hb' : (r i).rq a = (r i).sq b := hb
       have ll := l hx.1 hi
       exact absurd hb'.symm (ll.ne b a hy.2.2 hx.2.2).1)
    | (exfalso
       simp only [newB] at hb
       first
         | omega
         | (have ll := l (by omega) hi; have := ll.bmid; omega)
         | (have ll := l (by omega) hi; have := ll.bmid; have := ll.si _ hx.2.2; omega)
         | (have ll := l (by omega) hi; have := ll.bmid; have := ll.si _ hy.2.2; omega))
end
end Nd
end Go.Proofs.YtniicgbkeifnjaaGreatDoor
namespace Go.Proofs.YtniicgbkeifnjaaGreatDoor
open Go.ChangeShapes Go.WideShapes Go.ChangeAt Go.RowKit
set_option linter.unusedVariables false
set_option maxRecDepth 100000
namespace Nd
set_option maxHeartbeats 1000000 in
theorem asm {Z : World} {p : PV} {es : List (Int × Int)} {ws : List Int} {rs : List (List Int)} {n v base kk q pb cp wb wc pa ga aa z1 z2 z3 z4 ph pr L : Nat} {FH FR : Nat → Prop} {r : Nat → PB} {ps : List PRow} (hk : NewOk p es ws rs n v) (hL : p.lanes = (L : Int)) (hK : (Plan.bes es v).length = kk)
    (hp : Parts Z base L (fun k => ws.getD k 0) p.start p.room v (Plan.bes es v) kk (.slice (some ⟨pb, 0, none⟩) (kk + 1) cp) r ps) (hcp : kk + 1 ≤ cp ∧ cp ≤ maxLen)
    (c0 : Z.cell? ⟨q, 0, none⟩ = some (.int .i64 (v : Nat))) (c1 : Z.cell? ⟨q, 1, none⟩ = some (.int .i64 p.lanes)) (c2 : Z.cell? ⟨q, 2, none⟩ = some (.int .i64 p.room)) (c3 : Z.cell? ⟨q, 3, none⟩ = some (.int .i64 p.rounds)) (c4 : Z.cell? ⟨q, 4, none⟩ = some (.int .i64 p.every)) (c5 : Z.cell? ⟨q, 5, none⟩ = some (.int .i64 0)) (f5 : Z.frozen? ⟨q, 5, none⟩ = false)
    (c6 : Z.cell? ⟨q, 6, none⟩ = some (.slice (some ⟨pb, 0, none⟩) (kk + 1) cp)) (c7 : Z.cell? ⟨q, 7, none⟩ = some (.slice (some ⟨wb, 0, none⟩) n wc)) (c8 : Z.cell? ⟨q, 8, none⟩ = some (.pointer (some ⟨ph, 0, none⟩))) (c9 : Z.cell? ⟨q, 9, none⟩ = some (.pointer (some ⟨pr, 0, none⟩))) (c10 : Z.cell? ⟨q, 10, none⟩ = some (.pointer (some ⟨pa, 0, none⟩)))
    (hw : M.Ints Z wb n (fun d => (wayOf es rs v d : Nat))) (host : K.LAt Z FH ph L p.queue.toNat [] []) (rings : K.RAt Z FR pr (kk + 1) L ((kk + 1) * L * p.room.toNat) 0 0 (fun _ => [])) (arb : M.Arb Z pa ga aa (kk + 1) (fun _ => 0) (fun _ => 0))
    (bq : 1 ≤ q) (b0 : q < base) (b1 : ∀ i, i ≤ kk → (r i).hi ≤ z1) (b2 : base ≤ pb ∧ pb < z1) (b3 : z1 ≤ wb ∧ wb < z2) (hz : z2 ≤ z3 ∧ z3 ≤ z4) (bh : ∀ k, FH k → z2 ≤ k ∧ k < z3) (br : ∀ k, FR k → z3 ≤ k ∧ k < z4) (ba : z4 ≤ pa ∧ z4 ≤ ga ∧ z4 ≤ aa) :
    NIn Z (fun j => q ≤ j ∧ j < Z.heap.size) FH FR (newB q pb wb pa ga aa r) ph pr (cfgOf p es ws rs v) (st0 (cfgOf p es ws rs v) p.start.toNat) 0 := by
  have hn := hk.mn.nodes
  have two := hk.mn.two
  have h2 := hk.room
  have h3 := hk.queue
  have h4 := hk.rounds
  have h5 := hk.every
  have h6 := hk.start
  have h1 := hk.lanes
  have eL : (cfgOf p es ws rs v).L = L := by show p.lanes.toNat = L; omega
  have eP : (cfgOf p es ws rs v).P = kk + 1 := by show (Plan.bes es v).length + 1 = kk + 1; omega
  have eN : (cfgOf p es ws rs v).N = n := by show p.nodes.toNat = n; omega
  have er : (((cfgOf p es ws rs v).room : Nat) : Int) = p.room := by show ((p.room.toNat : Nat) : Int) = p.room; omega
  have es' : ((p.start.toNat : Nat) : Int) = p.start := by omega
  have lq : q < Z.heap.size := cell_lt c0
  have lpb : pb < Z.heap.size := by
    obtain ⟨g, cg, e, hg⟩ := owns_pos hp.own (Nat.succ_pos _)
    cases e
    exact hg
  have lwb : wb < Z.heap.size := hw.lt (by omega)
  have lpa : pa < Z.heap.size := cell_lt arb.c0
  have lga : ga < Z.heap.size := arb.gs.lt arb.n1
  have laa : aa < Z.heap.size := arb.ac.lt arb.n1
  have inI := fun (x : Lb) (hx : x.ok (cfgOf p es ws rs v)) (i : Nat) (e : x.idx = some i) => idx_in (q := q) (wb := wb) (pa := pa) (ga := ga) (aa := aa) hp eP eL x hx i e
  have rng : ∀ x : Lb, x.ok (cfgOf p es ws rs v) → ∀ i, x.idx = some i → base ≤ newB q pb wb pa ga aa r x ∧ newB q pb wb pa ga aa r x < z1 ∧ newB q pb wb pa ga aa r x < Z.heap.size := fun x hx i e => by
    obtain ⟨a, b, c⟩ := inI x hx i e
    have := hp.low a
    have := b1 i a
    have := (hp.good i a).o3
    omega
  have out : ∀ x : Lb, x.ok (cfgOf p es ws rs v) → x.idx = none → x = .p ∨ x = .pb ∨ x = .wb ∨ x = .pa ∨ x = .ga ∨ x = .aa := fun x hx e => Lb.noIdx hx e
  have hpb := hp.vb pb rfl
  refine ⟨fun k h => h.2, fun h => by omega, fun x hx => ?_, fun x y hx hy e => ?_, fun k h => ⟨⟨by have := (bh k h).1; omega, host.foot k h⟩, fun h' => by have := bh k h; have := br k h'; omega⟩, fun k h => ⟨by have := (br k h).1; omega, rings.foot k h⟩, c0, ?_, ?_, ?_, ?_, c5, f5, ⟨cp, by rw [eP]; exact hcp.1, hcp.2, by rw [eP]; exact c6⟩, ⟨wc, by rw [eN]; exact c7⟩, c8, c9, c10, fun i hi => ?_, ?_, fun i i1 i2 => ?_, fun i j i1 i2 j1 => ?_, fun d hd => ?_, fun i hi => ?_, fun i j i1 i2 j1 => ?_, fun i j i1 i2 j1 => ?_, ?_, ?_, ?_, cfg_ok hk, st_ok (by omega)⟩
  · cases e : x.idx with
    | some i =>
      have := rng x hx i e
      exact ⟨⟨by omega, this.2.2⟩, fun h => by have := bh _ h; omega, fun h => by have := br _ h; omega⟩
    | none =>
      rcases out x hx e with rfl | rfl | rfl | rfl | rfl | rfl <;> simp only [newB] <;> exact ⟨⟨by omega, by omega⟩, fun h => by have := bh _ h; omega, fun h => by have := br _ h; omega⟩
  · have n1 := arb.pg
    have n2 := arb.pa
    have n3 := arb.ga
    cases ex : x.idx with
    | some i =>
      cases ey : y.idx with
      | some j =>
        obtain ⟨a1, a2, a3⟩ := inI x hx i ex
        obtain ⟨d1, d2, d3⟩ := inI y hy j ey
        obtain rfl := hp.disj a1 d1 ⟨a2, a3⟩ ⟨by rw [e]; exact d2, by rw [e]; exact d3⟩
        exact idx_same hp eP eL x y hx hy i ex ey e
      | none =>
        exfalso
        have r1 := rng x hx i ex
        obtain ⟨a1, a2, a3⟩ := inI x hx i ex
        have r2 := hpb i a1
        rcases out y hy ey with rfl | rfl | rfl | rfl | rfl | rfl <;> rw [e] at r1 a2 a3 <;> simp only [newB] at r1 a2 a3 <;> omega
    | none =>
      cases ey : y.idx with
      | some j =>
        exfalso
        have r1 := rng y hy j ey
        obtain ⟨a1, a2, a3⟩ := inI y hy j ey
        have r2 := hpb j a1
        rcases out x hx ex with rfl | rfl | rfl | rfl | rfl | rfl <;> rw [← e] at r1 a2 a3 <;> simp only [newB] at r1 a2 a3 <;> omega
      | none =>
        rcases out x hx ex with rfl | rfl | rfl | rfl | rfl | rfl <;> rcases out y hy ey with rfl | rfl | rfl | rfl | rfl | rfl <;> simp only [newB] at e <;> first | rfl | (exfalso; omega)
  · show Z.cell? ⟨q, 1, none⟩ = some (.int .i64 ((p.lanes.toNat : Nat) : Int))
    rw [c1]; congr 2; omega
  · show Z.cell? ⟨q, 2, none⟩ = some (.int .i64 ((p.room.toNat : Nat) : Int))
    rw [c2]; congr 2; omega
  · show Z.cell? ⟨q, 3, none⟩ = some (.int .i64 ((p.rounds.toNat : Nat) : Int))
    rw [c3]; congr 2; omega
  · show Z.cell? ⟨q, 4, none⟩ = some (.int .i64 ((p.every.toNat : Nat) : Int))
    rw [c4]; congr 2; omega
  · rw [eP] at hi
    have a := hp.own.cellAt (i * 3) (by omega)
    have b := hp.own.cellAt (i * 3 + 1) (by omega)
    by_cases e : i = 0
    · subst e
      have t := prow_at hp.at0
      exact ⟨a.trans t.1, b.trans t.2.1⟩
    · have t := prow_at (hp.atk i (by omega) (by omega))
      refine ⟨a.trans t.1, (b.trans t.2.1).trans ?_⟩
      unfold toV
      rw [if_neg e]
      rfl
  · have t := prow_at hp.at0
    exact (hp.own.cellAt 2 (by omega)).trans t.2.2
  · rw [eP] at i2
    have t := prow_at (hp.atk i i1 (by omega))
    exact ⟨L, by rw [eL]; exact (hp.own.cellAt (i * 3 + 2) (by omega)).trans t.2.2⟩
  · rw [eP] at i2
    rw [eL] at j1
    exact (hp.lane i i1 (by omega)).row j j1
  · rw [eN] at hd
    exact (hw d hd).1
  · rw [eP] at hi
    have := (hp.good i (by omega)).whl
    rw [eL]
    exact this
  · rw [eP] at i2
    rw [eL] at j1
    have := (hp.lane i i1 (by omega)).sn j j1
    show Cr.Snd Z _ ((p.start.toNat : Nat) : Int) (((p.start.toNat : Nat) : Int) + (((cfgOf p es ws rs v).room : Nat) : Int))
    rw [er, es']
    exact this
  · rw [eP] at i2
    rw [eL] at j1
    have := (hp.lane i i1 (by omega)).rc j j1
    show Bf.Rcv Z _ ((p.start.toNat : Nat) : Int) (((cfgOf p es ws rs v).room : Nat) : Int) 0
    rw [er, es']
    exact this
  · rw [eL]
    exact host
  · rw [eP, eL, show (cfgOf p es ws rs v).n = (kk + 1) * L * p.room.toNat by unfold Cfg.n; rw [eP, eL]; rfl]
    exact rings
  · rw [eP]
    exact arb
end Nd
end Go.Proofs.YtniicgbkeifnjaaGreatDoor
namespace Go.Proofs.YtniicgbkeifnjaaGreatDoor
open Go.ChangeShapes Go.WideShapes Go.ChangeAt Go.RowKit
set_option linter.unusedVariables false
set_option maxRecDepth 100000
namespace Nd
def NR (w : World) (q : Nat) (cs : List Value) : Prop := ∀ j, j < cs.length → w.cell? ⟨q, j, none⟩ = cs[j]? ∧ w.frozen? ⟨q, j, none⟩ = false
theorem NR.sans {w w' : World} {E : Nat → Prop} {q : Nat} {cs : List Value} (h : NR w q cs) (hq : q < w.heap.size) (S : Sans E w w') (hE : ¬ E q) : NR w' q cs := fun j hj => ⟨(S.cell (p := ⟨q, j, none⟩) hq hE).trans (h j hj).1, (S.frozen (p := ⟨q, j, none⟩) hq hE).trans (h j hj).2⟩
theorem NR.below {w w' : World} {q : Nat} {cs : List Value} (h : NR w q cs) (hq : q < w.heap.size) (B : Below w.heap.size w w') : NR w' q cs := h.sans hq (E := fun _ => False) (Sans.of_below B) (fun e => e)
theorem NR.set {w : World} {q : Nat} {cs : List Value} (h : NR w q cs) (i : Nat) (hi : i < cs.length) (v : Value) : NR (w.setCell ⟨q, i, none⟩ v) q (cs.set i v) := fun j hj => by
  rw [List.length_set] at hj
  refine ⟨?_, by rw [World.frozen?_setCell]; exact (h j hj).2⟩
  have hc := (h i hi).1
  rw [List.getElem?_eq_getElem hi] at hc
  by_cases e : j = i
  · subst e
    rw [List.getElem?_set_self hi]
    exact World.cell?_setCell_same _ _ _ hc
  · rw [List.getElem?_set_ne (fun e2 => e e2.symm)]
    have h2 := (h j hj).1
    rw [List.getElem?_eq_getElem hj] at h2 ⊢
    exact cell_set h2 e
def Newable (p : PV) (es : List (Int × Int)) (ws : List Int) (rs : List (List Int)) (v : Int) : Prop := Plan.may p.num es ws (rs.map List.length) = true ∧ ¬ Route.Bad p.nodes es rs ∧ 0 ≤ v ∧ v < p.nodes
set_option maxHeartbeats 4000000 in
set_option maxRecDepth 100000 in
theorem new_no {w : World} {p : PV} {es : List (Int × Int)} {ws : List Int} {rs : List (List Int)} {v : Int} (h : PlN w p es ws rs) (hn : ¬ Newable p es ws rs v) :
    Calls Tryz.prog 11 #[p.val, .int .i64 v] w fun e w' => e = .returned (.pointer none) ∧ Below w.heap.size w w' := by
  have HX : Hid (Bxd (w.alloc p.obj) w.heap.size p) := bxd_new w p
  have HB0 : Hid (Below w.heap.size w (w.alloc p.obj)) := fresh _ _
  have HN : Hid (¬ Newable p es ws rs v) := hn
  obtain ⟨b, hb⟩ : ∃ b, Plan.may p.num es ws (rs.map List.length) = b := ⟨_, rfl⟩
  have HC : Hid (∀ u : World, Below w.heap.size w u → Calls Tryz.prog 35 #[p.val] u fun e w' => ∃ z, e = .returned (.int .u16 z) ∧ Route.CheckIs b p.nodes es rs z ∧ Below u.heap.size u w') := fun u hu => rcheckland_any (h.below hu) hb
  have HM : Hid (Plan.may p.num es ws (rs.map List.length) = b) := hb
  clear h hn hb
  obtain ⟨W, hWe⟩ : ∃ W, W = w.alloc p.obj := ⟨_, rfl⟩
  rw [← hWe] at HX HB0
  obtain ⟨nodes, lanes, room, queue, rounds, every, bag, start, ea, en, ec, wa, wn, wc, na, nn, nc⟩ := p
  simp only [PV.val, PV.obj] at hWe HC ⊢
  obtain ⟨x0, x1, x2, x3, x4, x5, x6, x7, x8, x9, x10⟩ := HX.out
  simp only at x0 x1 x2 x3 x4 x5 x6 x7 x8 x9 x10
  go_enter Tryz.func11, Tryz.ntmps11
  go_upto_region 1 with fail
  rw [← hWe]
  clear hWe
  have key : ∀ z, Route.CheckIs b nodes es rs z → z ≠ 0 ∨ (z = 0 ∧ v < 0) ∨ (z = 0 ∧ ¬ v < 0 ∧ nodes ≤ v) := fun z hz => by
    by_cases e : z = 0
    · right
      by_cases e1 : v < 0
      · exact .inl ⟨e, e1⟩
      · by_cases e2 : nodes ≤ v
        · exact .inr ⟨e, e1, e2⟩
        · exfalso
          rcases hz with ⟨_, h2⟩ | ⟨_, _, h2⟩ | ⟨h1, h2, _⟩
          · omega
          · omega
          · exact HN.out ⟨by rw [HM.out]; exact h1, h2, Int.not_lt.1 e1, Int.not_le.1 e2⟩
    · exact .inl e
  have HKey : Hid _ := key
  clear key
  go_wp2_with fail
  refine (HC.out W HB0.out).mono ?_
  rintro e u ⟨z, rfl, hz, hB⟩
  have hx0 := (HX.out.below hB).c0
  have HB : Hid (Below w.heap.size w u) := later HB0.out hB
  clear x0 x1 x2 x3 x4 x5 x6 x7 x8 x9 x10 hB
  simp only at hx0
  rcases HKey.out z hz with e | ⟨e, e1⟩ | ⟨e, e1, e2⟩
  · clear hz
    have h0 : (z != 0) = true := by simp [e]
    go_wp2_with fail
    go_ret
    exact ⟨rfl, HB.out⟩
  · subst e
    clear hz
    go_wp2_with fail
    go_ret
    exact ⟨rfl, HB.out⟩
  · subst e
    clear hz
    go_wp2_with fail
    go_ret
    exact ⟨rfl, HB.out⟩
end Nd
end Go.Proofs.YtniicgbkeifnjaaGreatDoor
