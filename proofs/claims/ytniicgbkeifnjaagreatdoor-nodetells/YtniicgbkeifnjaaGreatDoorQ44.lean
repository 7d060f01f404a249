/-
  Contracts and plain facts that the walks lean on (NodeOneB, NodeQuiet, NodeFlow, NodeY). Conditions: none but those that each states.
-/
import Derived.Test.YtniicgbkeifnjaaGreatDoorQ43
namespace Go.Proofs.YtniicgbkeifnjaaGreatDoor
open Go.ChangeShapes Go.WideShapes Go.ChangeAt Go.RowKit
set_option linter.unusedVariables false
set_option maxRecDepth 100000
namespace Nd
theorem usable_bel {w : World} {p : Nat} {s l : Int} (h : Cr.Snd w p s l) (u : Int) (hu : l - s = u) :
    Calls Tryz.prog 29 #[.pointer (some ⟨p, 0, none⟩)] w fun e w' => e = .returned (.int .i64 u) ∧ Below w.heap.size w w' := by
  have HM : Hid (Cr.Snd w p s l) := h
  have hc0 := h.c0
  have HR : Hid (0 ≤ s ∧ s ≤ l ∧ l ≤ s + 8) := ⟨h.s0, h.sl, h.l8⟩
  have hr : 0 ≤ u ∧ u ≤ 8 := by have := HR.out; omega
  clear h
  go_enter Tryz.func29, Tryz.ntmps29
  go_wp2_with fail
  refine (Cr.left_any HM.out).mono ?_
  rintro e w1 ⟨rfl, n, rfl⟩
  rw [hu]
  go_wp2_with fail
  go_ret
  exact ⟨ret_int (by first | rfl | (rw [IntKind.wrap_i64]; omega)), Cr.drewN_below _ _⟩
section
variable {w1 w w' : World} {q m p : Nat} {F : Nat → Prop} {c : Cfg} {s : St}
theorem take0_any (h : NAt w F p c s m) (u : Int) (hu : port c u = 0) (a : Option Addr) (n cp : Nat) :
    Calls Tryz.prog 32 #[.pointer (some ⟨p, 0, none⟩), .int .i64 u, .slice a n cp] w fun e w' => e = .returned (.int .u16 1) ∧ Below w.heap.size w w' := by
  obtain ⟨FH, FR, B, ph, pr, rfl, hn⟩ := h
  have HPt : Hid _ := portto_any hn u hu
  clear hn hu
  go_enter Tryz.func32, Tryz.ntmps32
  go_wp2_with fail
  refine Calls.mono HPt.out ?_
  rintro e v ⟨rfl, hB⟩
  have HE : Hid (Below w.heap.size w v) := hB
  clear hB
  go_wp2_with fail
  go_ret
  exact ⟨rfl, HE.out⟩
theorem one_take0 (h : One w1 w q c s m) (u : Int) (hu : u ∉ c.bs) (a : Option Addr) (n cp : Nat) (v : World) (hv : Below w.heap.size w v) :
    Calls Tryz.prog 32 #[.pointer (some ⟨q, 0, none⟩), .int .i64 u, .slice a n cp] v fun e w' => e = .returned (.int .u16 1) ∧ Below v.heap.size v w' := by
  obtain ⟨F, hn, _, _⟩ := h
  exact take0_any (hn.below hv) u (portIn_no hu) a n cp
theorem OutsAt.at {G : Nat → Prop} {v : Value} {os : Outs} (h : OutsAt w G v os) {j : Nat} {o : Int × List Nat} (ho : os[j]? = some o) :
    ∃ g cp a n cap, v = .slice (some ⟨g, 0, none⟩) os.length cp ∧ w.cell? ⟨g, j * 2, none⟩ = some (.int .i64 o.1) ∧ w.cell? ⟨g, j * 2 + 1, none⟩ = some (.slice a n cap) ∧ Octs w a n o.2 := by
  obtain ⟨R, r1, r2, r3, r4⟩ := h.raw
  have hj : j < os.length := by
    rcases Nat.lt_or_ge j os.length with h' | h'
    · exact h'
    · rw [List.getElem?_eq_none h'] at ho; cases ho
  have hr : R[j]? = some (R[j]'(by omega)) := List.getElem?_eq_getElem (by omega)
  obtain ⟨q1, q2, _⟩ := r4 j _ o hr ho
  obtain ⟨g, cp, e1, _⟩ := owns_pos r2 (by omega)
  subst e1
  have t := ocells_at hr
  refine ⟨g, cp, _, _, _, by rw [r1], ?_, (r2.cellAt (j * 2 + 1) (by omega)).trans t.2, q2⟩
  rw [r2.cellAt (j * 2) (by omega), ← q1]
  exact t.1
theorem One.wider {w1 u w : World} {q m : Nat} {c : Cfg} {s : St} (h : One u w q c s m) (k : Below w1.heap.size w1 u) : One w1 w q c s m := by
  obtain ⟨F, a, f, hB⟩ := h
  exact ⟨F, a, fun j hj => Nat.le_trans k.size (f j hj), later k hB⟩
theorem one_sender (h : One w1 w q c s m) {i l : Nat} (hi : 1 ≤ i) (hi2 : i < c.P) (hl : l < c.L) :
    ∃ x, Cr.Snd w x (s.s i l).1 (s.s i l).2 ∧ ∀ u, Below w.heap.size w u → Calls Tryz.prog 27 #[.pointer (some ⟨q, 0, none⟩), .int .i64 i, .int .i64 l] u fun e u' => e = .returned (.pointer (some ⟨x, 0, none⟩)) ∧ Below u.heap.size u u' := by
  obtain ⟨F, ⟨FH, FR, B, ph, pr, rfl, a⟩, _⟩ := h
  exact ⟨B (.sq i l), a.snd i l hi hi2 hl, fun u hu => sender_any (a.below hu) hi hi2 hl⟩
def OneG (w1 w : World) (q : Nat) (c : Cfg) (s : St) (m g : Nat) : Prop := ∃ F, NAt w F q c s m ∧ (∀ j, F j → w1.heap.size ≤ j) ∧ ¬ F g ∧ g < w.heap.size ∧ Below w1.heap.size w1 w
theorem OneG.one {g : Nat} (h : OneG w1 w q c s m g) : One w1 w q c s m := by
  obtain ⟨F, a, f, _, _, hB⟩ := h
  exact ⟨F, a, f, hB⟩
theorem OneG.below {g : Nat} (h : OneG w1 w q c s m g) (k : Below w.heap.size w w') : OneG w1 w' q c s m g := by
  obtain ⟨F, a, f, hg, hl, hB⟩ := h
  exact ⟨F, a.below k, f, hg, Nat.lt_of_lt_of_le hl k.size, later hB k⟩
theorem One.beside {g : Nat} (h : One w1 w q c s m) (k : Below w.heap.size w w') (h1 : w.heap.size ≤ g) (h2 : g < w'.heap.size) : OneG w1 w' q c s m g := by
  obtain ⟨F, a, f, hB⟩ := h
  exact ⟨F, a.below k, f, fun hg => by have := a.foot g hg; omega, h2, later hB k⟩
theorem og_take {g : Nat} (h : OneG w1 w q c s m g) (hm : m ≤ 80000) (u : Int) {a : Option Addr} {n cp : Nat} {l : List Nat} (ho : Octs w a n l) (hn : n ≤ cp) (hc : cp ≤ 9223372036854775807) :
    Calls Tryz.prog 32 #[.pointer (some ⟨q, 0, none⟩), .int .i64 u, .slice a n cp] w fun e w' => e = .returned (.int .u16 (takeE c s u l)) ∧ OneG w1 w' q c (take c s u l) (m + 3) g ∧ ∀ n' l', Octs w (some ⟨g, 0, none⟩) n' l' → Octs w' (some ⟨g, 0, none⟩) n' l' := by
  obtain ⟨F, a0, f, hg, hl, hB⟩ := h
  refine (take_any a0 hm u ho hn hc).mono ?_
  rintro e' w' ⟨rfl, F', b', gr⟩
  refine ⟨rfl, ⟨F', b', fun j h => (gr.2 j h).elim (f j) (fun h => Nat.le_trans hB.size h), fun h => (gr.2 g h).elim hg (fun h => by omega), Nat.lt_of_lt_of_le hl gr.1.size, hB.trans (gr.1.below (B := w1.heap.size) hB.size f)⟩, fun n' l' o => o.sans gr.1 fun ad e => ?_⟩
  cases e
  exact hg
theorem take0_any' (h : One w1 w q c s m) (u : Int) (hu : u ∉ c.bs) (a : Option Addr) (n cp : Nat) :
    Calls Tryz.prog 32 #[.pointer (some ⟨q, 0, none⟩), .int .i64 u, .slice a n cp] w fun e w' => e = .returned (.int .u16 1) ∧ Below w.heap.size w w' := one_take0 h u hu a n cp w (Below.refl _ _)
theorem own_cap {base : Nat} {a : Option Addr} {len cap : Nat} {l : List Nat} (h : Own w base a len cap l) : len ≤ cap ∧ cap ≤ 9223372036854775807 := by
  rcases h.1.2 with ⟨e, h0⟩ | ⟨g, c', cur, e, hb, hg, hn, hm, _⟩
  · simp only [Value.slice.injEq] at e
    omega
  · simp only [Value.slice.injEq] at e
    unfold maxLen at hm
    omega
end
end Nd
end Go.Proofs.YtniicgbkeifnjaaGreatDoor
namespace Go.Proofs.YtniicgbkeifnjaaGreatDoor.Nd
open Go.ChangeShapes Go.WideShapes Go.ChangeAt Go.RowKit
set_option linter.unusedVariables false
set_option maxRecDepth 100000
theorem acc_zero {R G A : Nat → Nat} {n : Nat} {m : Nat → Int} (h : ∀ i, R i = 0) (i : Nat) : M.Isl.acc R G A n m i = -1 := by
  rcases M.Isl.acc_cases (R := R) (G := G) (A := A) (n := n) (m := m) i with ⟨e, _⟩ | ⟨p, hp, e, hg⟩
  · exact e
  · have := (M.Isl.ask_free (M.Isl.grant_some hg).2).2.1
    rw [h i] at this
    simp at this
theorem run_zero {R G A : Nat → Nat} {n : Nat} (h : ∀ i, R i = 0) : ∀ k, M.Isl.run R G A n k = M.Isl.none_
  | 0 => rfl
  | k + 1 => by
    show M.Isl.rounds R _ _ n k (M.Isl.next R G A n M.Isl.none_) = _
    rw [M.Isl.next_none (fun i _ => acc_zero h i), M.Isl.rounds_none (fun i _ => acc_zero h i)]
theorem mask_zero {p : Nat → Bool} : ∀ n, (∀ i, i < n → p i = false) → maskOf p n = 0
  | 0, _ => rfl
  | n + 1, h => by
    unfold maskOf
    rw [mask_zero n (fun i hi => h i (by omega)), h n (by omega)]
    rfl
structure Idle (c : Cfg) (start : Nat) (s : St) : Prop where
  hl : s.hL = []
  qs : s.Q = fun _ => []
  sn : s.s = fun _ _ => (((start : Nat) : Int), ((start : Nat) : Int) + (c.room : Int))
  rc : s.r = fun _ _ => (((start : Nat) : Int), 0)
theorem idle0 (c : Cfg) (start : Nat) : Idle c start (st0 c start) := ⟨rfl, rfl, rfl, rfl⟩
theorem idle_feed1 {c : Cfg} {start : Nat} {s : St} (h : Idle c start s) (l : Nat) : feed1 c s l = s := by
  unfold feed1
  rw [h.hl]
  split
  · rfl
  · rfl
theorem idle_feedTo {c : Cfg} {start : Nat} {s : St} (h : Idle c start s) : ∀ l, feedTo c s l = s
  | 0 => rfl
  | l + 1 => by
    rw [feedTo, idle_feedTo h l, idle_feed1 h]
theorem idle_may {c : Cfg} {start : Nat} {s : St} (h : Idle c start s) (i o l : Nat) : may c s i o l = false := by
  unfold may
  rw [h.qs]
  simp
theorem idle_asks {c : Cfg} {start : Nat} {s : St} (h : Idle c start s) (i : Nat) : asks c s i = 0 := by
  unfold asks askM
  split
  · refine mask_zero _ fun o _ => ?_
    unfold mayM
    rw [mask_zero _ fun l _ => idle_may h i o l]
    rfl
  · rfl
theorem passTo_none {c : Cfg} {m : Nat → Int} (hm : ∀ i, m i < 0) (s : St) : ∀ k, passTo c m s k = (s, [])
  | 0 => rfl
  | k + 1 => by
    rw [passTo, if_pos (hm k), passTo_none hm s k]
theorem idle_tick {c : Cfg} {start : Nat} {s : St} (h : Idle c start s) : Idle c start (tick c s).1 ∧ (tick c s).1.k = s.k + 1 ∧ (tick c s).1.hG = s.hG ∧ (tick c s).2 = if (s.k + 1) % c.every = 0 then tellAll c (st0 c start) c.bs.length else [] := by
  have e1 : feed c s = s := idle_feedTo h _
  have e2 : moved c s = (turned c s, []) := by
    refine passTo_none (fun i => ?_) _ _
    unfold matched
    rw [run_zero (fun i => idle_asks h i)]
    simp [M.Isl.none_]
  have e3 : tick c s = ({ turned c s with k := s.k + 1 }, [] ++ if (s.k + 1) % c.every = 0 then tellAll c (turned c s) c.bs.length else []) := by
    unfold tick
    rw [e1, e2]
    rfl
  rw [e3]
  refine ⟨⟨h.hl, h.qs, h.sn, h.rc⟩, rfl, rfl, ?_⟩
  rw [List.nil_append]
  have e4 : ∀ o l, tellTo c (turned c s) o l = tellTo c (st0 c start) o l := by
    intro o l
    induction l with
    | zero => rfl
    | succ l ih =>
      unfold tellTo
      rw [ih]
      unfold tell1
      rw [show (turned c s).s = (st0 c start).s from h.sn, show (turned c s).r = (st0 c start).r from h.rc]
  have e5 : ∀ k, tellAll c (turned c s) k = tellAll c (st0 c start) k := by
    intro k
    induction k with
    | zero => rfl
    | succ k ih =>
      unfold tellAll
      rw [ih, e4]
  rw [e5]
def idleN (c : Cfg) (start : Nat) : Nat → St
  | 0 => st0 c start
  | n + 1 => (tick c (idleN c start n)).1
theorem idleN_is (c : Cfg) (start : Nat) : ∀ n, Idle c start (idleN c start n) ∧ (idleN c start n).k = n
  | 0 => ⟨idle0 c start, rfl⟩
  | n + 1 => by
    obtain ⟨a, b⟩ := idleN_is c start n
    obtain ⟨a', b', _⟩ := idle_tick a
    exact ⟨a', by rw [idleN, b', b]⟩
theorem idleN_out (c : Cfg) (start n : Nat) : (tick c (idleN c start n)).2 = if (n + 1) % c.every = 0 then tellAll c (st0 c start) c.bs.length else [] := by
  obtain ⟨a, b⟩ := idleN_is c start n
  rw [(idle_tick a).2.2.2, b]
theorem tellTo_at {c : Cfg} {s : St} {o : Nat} : ∀ {L j : Nat}, j < 2 * L → (tellTo c s o L)[j]? = some (if j % 2 = 0 then out c o (tellF 3 (j / 2) (s.s o (j / 2)).1) else out c o (tellF 2 (j / 2) ((s.r o (j / 2)).1 + ((c.room : Int) - (s.r o (j / 2)).2))))
  | 0, j, h => by omega
  | L + 1, j, h => by
    have hl : (tellTo c s o L).length = 2 * L := by
      clear h
      induction L with
      | zero => rfl
      | succ L ih => unfold tellTo tell1; simp [ih]; omega
    unfold tellTo
    rcases Nat.lt_or_ge j (2 * L) with h1 | h1
    · rw [List.getElem?_append_left (by omega), tellTo_at h1]
    · rw [List.getElem?_append_right (by omega), hl]
      obtain rfl | rfl : j = 2 * L ∨ j = 2 * L + 1 := by omega
      · rw [Nat.sub_self, show 2 * L / 2 = L by omega, if_pos (by omega)]
        rfl
      · rw [show 2 * L + 1 - 2 * L = 1 by omega, show (2 * L + 1) / 2 = L by omega, if_neg (by omega)]
        rfl
theorem quiet_len (c : Cfg) (s : St) (o : Nat) : ∀ l, (tellTo c s o l).length = 2 * l
  | 0 => rfl
  | l + 1 => by
    unfold tellTo tell1
    rw [List.length_append, quiet_len c s o l]
    simp
    omega
theorem quiet_all (c : Cfg) (s : St) : ∀ k, (tellAll c s k).length = k * (2 * c.L)
  | 0 => by simp [tellAll]
  | k + 1 => by
    rw [tellAll, List.length_append, quiet_all c s k, quiet_len]
    exact (Nat.succ_mul k (2 * c.L)).symm
def quietF (c : Cfg) (start j : Nat) : Wire.Fr := if j % 2 = 0 then tellF 3 (j / 2 % c.L) (start : Nat) else tellF 2 (j / 2 % c.L) ((start : Nat) + (c.room : Int))
theorem tellAll_at {c : Cfg} (start : Nat) (hL : 1 ≤ c.L) : ∀ {B j : Nat}, j < B * (2 * c.L) → ∃ o, (tellAll c (st0 c start) B)[j]? = some (out c o (quietF c start j))
  | 0, j, h => by omega
  | B + 1, j, h => by
    have hl := quiet_all c (st0 c start) B
    have hs : (B + 1) * (2 * c.L) = B * (2 * c.L) + 2 * c.L := Nat.succ_mul _ _
    unfold tellAll
    rcases Nat.lt_or_ge j (B * (2 * c.L)) with h1 | h1
    · rw [List.getElem?_append_left (by omega)]
      exact tellAll_at start hL h1
    · obtain ⟨i, rfl⟩ : ∃ i, j = B * (2 * c.L) + i := ⟨j - B * (2 * c.L), by omega⟩
      rw [List.getElem?_append_right (by omega), hl, Nat.add_sub_cancel_left]
      have hi : i < 2 * c.L := by omega
      refine ⟨B + 1, ?_⟩
      rw [tellTo_at hi]
      have e1 : (B * (2 * c.L) + i) % 2 = i % 2 := by
        rw [show B * (2 * c.L) = 2 * (B * c.L) by rw [Nat.mul_left_comm], Nat.mul_add_mod]
      have e2 : (B * (2 * c.L) + i) / 2 % c.L = i / 2 := by
        rw [show B * (2 * c.L) = 2 * (B * c.L) by rw [Nat.mul_left_comm], Nat.mul_add_div (by omega), Nat.mul_comm B c.L, Nat.mul_add_mod]
        exact Nat.mod_eq_of_lt (by omega)
      unfold quietF
      rw [e1, e2]
      split
      · rfl
      · rw [show ((st0 c start).r (B + 1) (i / 2)).1 + ((c.room : Int) - ((st0 c start).r (B + 1) (i / 2)).2) = (start : Nat) + (c.room : Int) by show ((start : Nat) : Int) + ((c.room : Int) - 0) = _; omega]
theorem tell_fine {k l : Nat} {n : Int} (hk : k = 2 ∨ k = 3) (hl : l < 3) : (tellF k l n).ok ∧ (tellF k l n).sound = true := by
  unfold tellF
  refine ⟨?_, (Wire.Fr.sound_iff _).2 ⟨hl, .inr ⟨hk.elim .inl .inr, rfl, rfl, rfl⟩⟩⟩
  refine ⟨?_, ?_, ?_, ?_, ?_, ?_⟩
  · show k < 256; omega
  · show l < 256; omega
  · show (n % 65536).toNat < 65536; omega
  · show 0 < 256; omega
  · show 0 < 256; omega
  · show 0 < 4294967296; omega
theorem quiet_fine {c : Cfg} {start : Nat} (hL : 1 ≤ c.L ∧ c.L ≤ 3) (j : Nat) : (quietF c start j).ok ∧ (quietF c start j).sound = true := by
  have hm : j / 2 % c.L < c.L := Nat.mod_lt _ (by omega)
  unfold quietF
  split
  · exact tell_fine (.inr rfl) (by omega)
  · exact tell_fine (.inl rfl) (by omega)
theorem quiet_out {c : Cfg} {start : Nat} (hL : 1 ≤ c.L ∧ c.L ≤ 3) (j o : Nat) : out c o (quietF c start j) = (c.dst o, (quietF c start j).enc) := by
  unfold out
  rw [if_pos (quiet_fine hL j).2]
theorem quiet_even {c : Cfg} {start j : Nat} (hs : start < 65536) (h : j % 2 = 0) : quietF c start j = ⟨3, j / 2 % c.L, start, 0, 0, 0⟩ := by
  unfold quietF tellF
  rw [if_pos h, show (((start : Nat) : Int) % 65536).toNat = start by omega]
theorem quiet_odd {c : Cfg} {start j : Nat} (h : j % 2 ≠ 0) : quietF c start j = ⟨2, j / 2 % c.L, (start + c.room) % 65536, 0, 0, 0⟩ := by
  unfold quietF tellF
  rw [if_neg h, show ((((start : Nat) : Int) + (c.room : Int)) % 65536).toNat = (start + c.room) % 65536 by omega]
end Go.Proofs.YtniicgbkeifnjaaGreatDoor.Nd
namespace Go.Proofs.YtniicgbkeifnjaaGreatDoor.Nd
open Go.ChangeShapes Go.WideShapes Go.ChangeAt Go.RowKit
set_option linter.unusedVariables false
set_option maxRecDepth 100000
structure Duct (c : Cfg) : Prop where
  L : c.L = 1
  P : c.P = 2
  rounds : c.rounds = 1
  every : c.every = 8
  way : c.way 1 = 1
  dst : c.dst 1 = 1
  room : 1 ≤ c.room
def ductQ (q : List Pk) : K.Pl → List Pk := fun k => if k = ((0 : Int), (1 : Int), (0 : Int)) then q else []
def pkB (b : Nat) : Pk := ⟨0, 1, 0, (b : Nat)⟩
structure Flow (c : Cfg) (start : Nat) (s : St) (h q : List Nat) (d : Nat) : Prop where
  hl : s.hL = h.map pkB
  qs : s.Q = ductQ (q.map pkB)
  tn : s.t = q.length
  sn : s.s 1 0 = (((start : Nat) : Int) + (d : Int), ((start : Nat) : Int) + (c.room : Int))
  qn : d < c.room → q = []
  dn : d ≤ c.room
theorem lane_pk (h : List Nat) : K.Hst.lane (h.map pkB) 0 = h.map pkB := by
  unfold K.Hst.lane
  rw [List.filter_eq_self]
  intro x hx
  obtain ⟨b, _, rfl⟩ := List.mem_map.1 hx
  rfl
theorem drop_pk (b : Nat) (h : List Nat) : K.Hst.drop1 (pkB b :: h.map pkB) 0 = h.map pkB := by
  unfold K.Hst.drop1
  rw [List.eraseP_cons_of_pos (by rfl)]
theorem ductQ_at (q : List Pk) : ductQ q ((0 : Int), (1 : Int), (0 : Int)) = q := if_pos rfl
theorem ductQ_upd (q q' : List Pk) : K.upd (ductQ q) ((0 : Int), (1 : Int), (0 : Int)) q' = ductQ q' := by
  funext k
  unfold K.upd ductQ
  split
  · rfl
  · rfl
theorem inside_duct {s : St} {q : List Pk} (h : s.Q = ductQ q) : inside s 0 0 2 = q.length := by
  unfold inside inside inside
  rw [h]
  simp [ductQ]
theorem flow_feed {c : Cfg} (hc : Duct c) {start : Nat} {s : St} {h q : List Nat} {d : Nat} (hf : Flow c start s h q d) :
    ∃ h' q', feed c s = { s with hL := h'.map pkB, t := q'.length, Q := ductQ (q'.map pkB) } ∧ q' ++ h' = q ++ h ∧ (q' = [] → q = [] ∧ h = []) ∧ (q = [] → q'.length ≤ 1) := by
  have hl1 : feed c s = feed1 c s 0 := by
    unfold feed
    rw [hc.L]
    rfl
  have hst : s = { s with hL := h.map pkB, t := q.length, Q := ductQ (q.map pkB) } := by
    rw [← hf.hl, ← hf.tn, ← hf.qs]
  rw [hl1]
  unfold feed1
  rw [hc.P, inside_duct hf.qs, List.length_map]
  split
  · rename_i hr
    refine ⟨h, q, hst, rfl, fun e => ?_, fun e => by rw [e]; simp⟩
    subst e
    have := hc.room
    simp at hr
    omega
  · rename_i hr
    rw [show ((0 : Nat) : Int) = 0 from rfl, hf.hl, lane_pk]
    cases h with
    | nil => exact ⟨[], q, hst, rfl, fun e => ⟨e, rfl⟩, fun e => by rw [e]; simp⟩
    | cons b h =>
      have ht : K.takes c.P c.L c.n s.t ((0 : Int), (1 : Int), (0 : Int)) = true := by
        unfold K.takes
        rw [hf.tn, hc.P, hc.L]
        have e : c.n = 2 * 1 * c.room := by unfold Cfg.n; rw [hc.P, hc.L]
        rw [e]
        simp
        omega
      refine ⟨h, q ++ [b], ?_, by simp, fun e => by simp at e, fun e => by rw [e]; simp⟩
      simp only [List.map_cons]
      have e2 : c.way (pkB b).d.toNat = 1 := hc.way
      unfold push
      rw [e2, drop_pk]
      show ({ s with hL := h.map pkB, t := K.pushT (K.takes c.P c.L c.n s.t ((0 : Int), (1 : Int), (0 : Int))) s.t, Q := K.pushQ (K.takes c.P c.L c.n s.t ((0 : Int), (1 : Int), (0 : Int))) s.Q ((0 : Int), (1 : Int), (0 : Int)) (pkB b) } : St) = _
      rw [ht, hf.qs, hf.tn]
      unfold K.pushT K.pushQ
      rw [if_pos rfl, if_pos rfl, ductQ_at, ductQ_upd]
      simp
theorem run_one {R G A : Nat → Nat} (h0 : R 0 = 2) (h1 : ∀ i, i ≠ 0 → R i = 0) : M.Isl.run R G A 2 1 0 = 1 ∧ M.Isl.run R G A 2 1 1 < 0 := by
  have hE : M.Isl.run R G A 2 1 = M.Isl.next R G A 2 M.Isl.none_ := rfl
  have ha : M.Isl.ask R 2 M.Isl.none_ 1 0 = true := by
    unfold M.Isl.ask
    rw [h0]
    decide
  rw [hE]
  unfold M.Isl.next
  have hg : M.Isl.grant R G 2 M.Isl.none_ 1 = 0 := by
    rcases M.Isl.grant_cases (R := R) (G := G) (n := 2) (m := M.Isl.none_) 1 with ⟨_, h⟩ | ⟨i, hi, e, h⟩
    · rw [h 0 (by omega)] at ha
      cases ha
    · have h2 := (M.Isl.ask_free h).2.1
      by_cases hz : i = 0
      · rw [e, hz]
        rfl
      · rw [h1 i hz] at h2
        simp at h2
  have hac : M.Isl.acc R G A 2 M.Isl.none_ 0 = 1 := by
    rcases M.Isl.acc_cases (R := R) (G := G) (A := A) (n := 2) (m := M.Isl.none_) 0 with ⟨_, h⟩ | ⟨o, ho, e, h⟩
    · exact absurd hg (h 1 (by omega))
    · have h2 := (M.Isl.ask_free (M.Isl.grant_some h).2).2.1
      rw [h0] at h2
      obtain rfl | rfl : o = 0 ∨ o = 1 := by omega
      · exact absurd h2 (by decide)
      · rw [e]
        rfl
  have hac1 : M.Isl.acc R G A 2 M.Isl.none_ 1 = -1 := by
    rcases M.Isl.acc_cases (R := R) (G := G) (A := A) (n := 2) (m := M.Isl.none_) 1 with ⟨h, _⟩ | ⟨o, ho, e, h⟩
    · exact h
    · have h2 := (M.Isl.ask_free (M.Isl.grant_some h).2).2.1
      rw [h1 1 (by omega)] at h2
      simp at h2
  rw [hac, hac1]
  decide
theorem wheel_one (lf : Nat → Int) (f : Nat) : wLane 1 lf f 1 = 0 := by
  have h0 : M.Isl.pickP (fun i => (1 : Nat).testBit i) f 1 = 0 := by
    rcases M.Isl.pickP_cases (fun i => (1 : Nat).testBit i) f 1 with ⟨_, h⟩ | ⟨i, hi, e, _⟩
    · have := h 0 (by omega)
      simp at this
    · obtain rfl : i = 0 := by omega
      exact e
  unfold wLane
  rw [h0, if_neg (by decide)]
  split
  · rfl
  · rename_i h
    rcases M.Isl.pickP_cases (fun i => (1 : Nat).testBit i && decide (0 < lf i)) f 1 with ⟨e, _⟩ | ⟨i, hi, e, _⟩
    · omega
    · obtain rfl : i = 0 := by omega
      exact e
theorem may_duct {c : Cfg} {s : St} {q : List Nat} (hQ : s.Q = ductQ (q.map pkB)) (i o l : Nat) (h : ¬ (i = 0 ∧ o = 1 ∧ l = 0) ∨ q = []) : may c s i o l = false := by
  unfold may
  rw [hQ]
  have e : ductQ (q.map pkB) ((i : Nat), (o : Nat), (l : Nat)) = [] := by
    unfold ductQ
    rcases h with h | h
    · rw [if_neg]
      rintro e
      simp only [Prod.mk.injEq] at e
      omega
    · rw [h]
      split <;> rfl
  rw [e]
  simp
theorem may_yes {c : Cfg} (hc : Duct c) {s : St} {q : List Nat} (hQ : s.Q = ductQ (q.map pkB)) {x : Nat} {q' : List Nat} (hq : q = x :: q') : may c s 0 1 0 = decide (0 < (s.s 1 0).2 - (s.s 1 0).1) := by
  unfold may
  rw [hQ, hc.L]
  have e : ductQ (q.map pkB) (((0 : Nat) : Int), ((1 : Nat) : Int), ((0 : Nat) : Int)) = q.map pkB := if_pos rfl
  rw [e, hq]
  simp
theorem mayM_duct {c : Cfg} (hc : Duct c) {s : St} (b : Bool) (hb : may c s 0 1 0 = b) : mayM c s 0 1 = if b then 1 else 0 := by
  unfold mayM
  rw [hc.L]
  unfold maskOf maskOf
  rw [hb]
  cases b <;> rfl
theorem asks_duct {c : Cfg} (hc : Duct c) {s : St} {q : List Nat} (hQ : s.Q = ductQ (q.map pkB)) (b : Bool) (hb : may c s 0 1 0 = b) : asks c s 0 = (if b then 2 else 0) ∧ ∀ i, i ≠ 0 → asks c s i = 0 := by
  have hz : ∀ i o, ¬ (i = 0 ∧ o = 1) → mayM c s i o = 0 := fun i o h => mask_zero _ fun l _ => may_duct hQ i o l (.inl (by omega))
  refine ⟨?_, fun i hi => ?_⟩
  · unfold asks askM
    rw [hc.P, if_pos (by omega)]
    unfold maskOf maskOf maskOf
    rw [hz 0 0 (by omega), mayM_duct hc b hb]
    cases b <;> rfl
  · unfold asks askM
    split
    · refine mask_zero _ fun o _ => ?_
      rw [hz i o (by omega)]
      rfl
    · rfl
def flowF (start d b : Nat) : Wire.Fr := dataF 0 (((start : Nat) : Int) + (d : Int)) (pkB b)
theorem flow_fine {start d b : Nat} (hb : b < 4294967296) : (flowF start d b).ok ∧ (flowF start d b).sound = true := by
  unfold flowF dataF
  refine ⟨?_, (Wire.Fr.sound_iff _).2 ⟨by show 0 < 3; omega, .inl ⟨rfl, by show 0 < 6; omega, by show 1 < 6; omega, by show 0 ≠ 1; omega⟩⟩⟩
  refine ⟨?_, ?_, ?_, ?_, ?_, ?_⟩
  · show 1 < 256; omega
  · show 0 < 256; omega
  · show ((((start : Nat) : Int) + (d : Int)) % 65536).toNat < 65536; omega
  · show 0 < 256; omega
  · show 1 < 256; omega
  · show ((b : Nat) : Int).toNat < 4294967296; omega
theorem flow_tick {c : Cfg} (hc : Duct c) {start : Nat} {s : St} {h q : List Nat} {d : Nat} (hf : Flow c start s h q d) (hk : s.k < 7) :
    (tick c s).1.k = s.k + 1 ∧ ∃ h' q', (if d < c.room ∧ q ++ h ≠ [] then Flow c start (tick c s).1 h' q' (d + 1) ∧ q' ++ h' = (q ++ h).tail ∧ (tick c s).2 = [out c 1 (flowF start d ((q ++ h).headD 0))] else Flow c start (tick c s).1 h' q' d ∧ q' ++ h' = q ++ h ∧ (tick c s).2 = []) := by
  obtain ⟨h', q', hF, hqh, hqn, hq1⟩ := flow_feed hc hf
  obtain ⟨S, hS⟩ : ∃ S, feed c s = S := ⟨_, rfl⟩
  have hSs : S.s = s.s := by rw [← hS, hF]
  have hSk : S.k = s.k := by rw [← hS, hF]
  have hSQ : S.Q = ductQ (q'.map pkB) := by rw [← hS, hF]
  have hSh : S.hL = h'.map pkB := by rw [← hS, hF]
  have hSt : S.t = q'.length := by rw [← hS, hF]
  have hev : ¬ (s.k + 1) % c.every = 0 := by rw [hc.every]; omega
  have hsn : S.s 1 0 = (((start : Nat) : Int) + (d : Int), ((start : Nat) : Int) + (c.room : Int)) := by rw [hSs]; exact hf.sn
  by_cases hgo : d < c.room ∧ q ++ h ≠ []
  · obtain ⟨x, q2, hq2⟩ : ∃ x q2, q' = x :: q2 := by
      cases q' with
      | nil => exact absurd (by rw [(hqn rfl).1, (hqn rfl).2]; rfl) hgo.2
      | cons x q2 => exact ⟨x, q2, rfl⟩
    have hq0 := hf.qn hgo.1
    obtain rfl : q2 = [] := by
      have := hq1 hq0
      rw [hq2] at this
      simp at this
      exact this
    have hb : may c S 0 1 0 = true := by
      rw [may_yes hc hSQ hq2, hsn]
      simp
      omega
    obtain ⟨a0, a1⟩ := asks_duct hc hSQ true hb
    have hmt := run_one (G := S.g) (A := S.a) a0 a1
    have hm0 : matched c S 0 = 1 := by unfold matched; rw [hc.P, hc.rounds]; exact hmt.1
    have hm1 : matched c S 1 < 0 := by unfold matched; rw [hc.P, hc.rounds]; exact hmt.2
    have hmy : mayM c (turned c S) 0 1 = 1 := (mayM_duct (s := turned c S) hc true hb)
    have hmv : moved c S = pass c (turned c S) 0 1 := by
      unfold moved
      rw [hc.P]
      unfold passTo passTo passTo
      rw [if_pos hm1, if_neg (show ¬ matched c S 0 < 0 by omega), hm0]
      rfl
    have hps : pass c (turned c S) 0 1 = goes c { turned c S with wl := up1 S.wl 1 (wLeft 1 c.wt (S.wl 1) (S.wf 1) 1), wf := up1 S.wf 1 (wFrom 1 (S.wl 1) (S.wf 1) 1) } 0 1 0 := by
      unfold pass
      rw [hmy, hc.L, show wLane 1 ((turned c S).wl 1) ((turned c S).wf 1) 1 = 0 from wheel_one _ _, if_neg (by decide)]
      rfl
    have hqk : ductQ (q'.map pkB) (((0 : Nat) : Int), ((1 : Nat) : Int), ((0 : Nat) : Int)) = [pkB x] := by rw [hq2]; exact if_pos rfl
    have hout : (moved c S).2 = [out c 1 (flowF start d x)] := by
      rw [hmv, hps]
      unfold goes
      simp only
      rw [if_neg (by omega)]
      show [out c 1 (dataF 0 (sNum ((turned c S).s 1 0)) (K.hd ((turned c S).Q _)))] = _
      rw [show (turned c S).s = S.s from rfl, show (turned c S).Q = S.Q from rfl, hsn, hSQ, hqk]
      unfold sNum
      rw [if_neg (by simp; omega)]
      rfl
    have hst : (moved c S).1.hL = h'.map pkB ∧ (moved c S).1.Q = ductQ [] ∧ (moved c S).1.t = 0 ∧ (moved c S).1.s 1 0 = (((start : Nat) : Int) + ((d + 1 : Nat) : Int), ((start : Nat) : Int) + (c.room : Int)) ∧ (moved c S).1.k = s.k := by
      rw [hmv, hps]
      unfold goes
      simp only
      rw [if_neg (by omega)]
      refine ⟨hSh, ?_, ?_, ?_, hSk⟩
      · show K.upd S.Q _ (S.Q _).tail = _
        rw [hSQ, hqk]
        exact ductQ_upd _ _
      · show S.t - 1 = 0
        rw [hSt, hq2]
        rfl
      · show up2 S.s 1 0 (sNext (S.s 1 0)) 1 0 = _
        rw [up2_same, hsn]
        unfold sNext
        rw [if_neg (by simp; omega)]
        simp
        omega
    have hR : (q ++ h) = x :: h' := by rw [← hqh, hq2]; rfl
    have hT : tick c s = ({ (moved c S).1 with k := (moved c S).1.k + 1 }, (moved c S).2 ++ if ((moved c S).1.k + 1) % c.every = 0 then tellAll c (moved c S).1 c.bs.length else []) := by
      unfold tick
      rw [hS]
    rw [hT, hst.2.2.2.2, if_neg hev, List.append_nil]
    refine ⟨rfl, h', [], ?_⟩
    rw [if_pos hgo, hR]
    exact ⟨⟨hst.1, hst.2.1, hst.2.2.1, hst.2.2.2.1, fun _ => rfl, by omega⟩, rfl, hout⟩
  · have hb : may c S 0 1 0 = false := by
      cases hq' : q' with
      | nil => exact may_duct hSQ 0 1 0 (.inr hq')
      | cons x q2 =>
        rw [may_yes hc hSQ hq', hsn]
        have hd : d = c.room := by
          have := hf.dn
          rcases Nat.lt_or_ge d c.room with h1 | h1
          · exact absurd ⟨h1, fun e => by rw [← hqh, hq'] at e; simp at e⟩ hgo
          · omega
        rw [hd]
        simp
    obtain ⟨a0, a1⟩ := asks_duct hc hSQ false hb
    have hz : ∀ i, asks c S i = 0 := fun i => by
      by_cases hi : i = 0
      · rw [hi]; exact a0
      · exact a1 i hi
    have hmv : moved c S = (turned c S, []) := by
      refine passTo_none (fun i => ?_) _ _
      unfold matched
      rw [run_zero hz]
      simp [M.Isl.none_]
    have hT : tick c s = ({ turned c S with k := S.k + 1 }, []) := by
      unfold tick
      rw [hS, hmv]
      simp only
      rw [show (turned c S).k = s.k from hSk, if_neg hev, hSk]
      rfl
    rw [hT]
    refine ⟨by show S.k + 1 = _; rw [hSk], h', q', ?_⟩
    rw [if_neg hgo]
    refine ⟨⟨hSh, hSQ, hSt, hsn, fun hd => ?_, hf.dn⟩, hqh, rfl⟩
    have h0 := hf.qn hd
    have : q ++ h = [] := by
      rcases Classical.em (q ++ h = []) with e | e
      · exact e
      · exact absurd ⟨hd, e⟩ hgo
    rw [← hqh] at this
    exact (List.append_eq_nil_iff.1 this).1
end Go.Proofs.YtniicgbkeifnjaaGreatDoor.Nd
namespace Go.Proofs.YtniicgbkeifnjaaGreatDoor
open Go.ChangeShapes Go.WideShapes Go.ChangeAt Go.RowKit
set_option linter.unusedVariables false
set_option maxRecDepth 100000
namespace Nd
set_option maxHeartbeats 8000000 in
set_option maxRecDepth 100000 in
theorem known_any (w : World) (hT : M.Tab w) :
    Calls Tryz.prog 12 #[] w fun e w' => e = .returned (.bool true) ∧ Below w.heap.size w w' := by
  have HT : Hid (M.Tab w) := hT
  clear hT
  obtain ⟨W, hW⟩ : ∃ W, W = w.alloc (.cells #[.int .u8 0] 5) := ⟨_, rfl⟩
  have HO : Hid (Octs W (some ⟨w.heap.size, 0, none⟩) 1 [0] ∧ Below w.heap.size w W) := by
    rw [hW]
    refine ⟨⟨rfl, by unfold maxLen; omega, fun x hx => by simp at hx; omega, .inr ⟨w.heap.size, 0, rfl, by simp, fun i hi => ?_⟩⟩, fresh _ _⟩
    have : i = 0 := by omega
    subst this
    simp
  go_enter Tryz.func12, Tryz.ntmps12
  go_wp2_with fail
  rw [← hW]
  clear hW
  refine (show Calls Tryz.prog 10 #[.slice (some ⟨w.heap.size, 0, none⟩) 1 1, .int .u8 1, .int .u8 0, .int .u16 0] W _ from plan_any HO.out.1 1 0 0 (by omega) (by omega) (by omega)).mono ?_
  rintro e w1 ⟨p, rfl, hTP, hB1⟩
  obtain ⟨t1, t2, t3, t4⟩ := treeK
  obtain ⟨n1, n2, n3, n4, n5, n6⟩ := numK
  have hnd := hTP.nodes
  have hst := hTP.start
  obtain ⟨m1, m2, m3, m4, m5, m6⟩ := hTP.nums
  rw [n1] at m1
  rw [n2] at m2
  rw [n3] at m3
  rw [n4] at m4
  rw [n5] at m5
  rw [n6] at m6
  rw [t4] at hnd
  have hpl := hTP.pln
  have hgd := hTP.good
  rw [t1, t2, t3] at hpl
  rw [t1, t2] at hgd
  obtain ⟨nodes, lanes, room, queue, rounds, every, bag, start, ea, en, ec, wa, wn, wc, na, nn, nc⟩ := p
  simp only at hnd hst m1 m2 m3 m4 m5 m6 hgd
  subst hnd hst m1 m2 m3 m4 m5 m6
  have HP0 : Hid (PlN w1 ⟨2, 1, 2, 1, 1, 1, 64, 0, ea, en, ec, wa, wn, wc, na, nn, nc⟩ esK [1] rsK) := hpl
  have HG : Hid (¬ Route.Bad 2 esK rsK) := hgd
  have HB1 : Hid (Below w.heap.size w w1) := later HO.out.2 hB1
  clear hTP hB1 hpl hgd t1 t2 t3 t4 n1 n2 n3 n4 n5 n6
  obtain ⟨R, hR⟩ : ∃ R, w1.heap.size = R := ⟨_, rfl⟩
  obtain ⟨V, hV⟩ : ∃ V, V = w1.alloc (PV.obj ⟨2, 1, 2, 1, 1, 1, 64, 0, ea, en, ec, wa, wn, wc, na, nn, nc⟩) := ⟨_, rfl⟩
  have HV : Hid (Bx V R ⟨2, 1, 2, 1, 1, 1, 64, 0, ea, en, ec, wa, wn, wc, na, nn, nc⟩ ∧ Below w1.heap.size w1 V ∧ R < V.heap.size) := by rw [hV, ← hR]; exact ⟨bx_new _ _, fresh _ _, by simp⟩
  simp only [PV.obj] at hV
  simp only [PV.val]
  go_upto_region 2 with fail
  rw [← hV]
  clear hV
  have k6 := HV.out.1.x.c6
  have k6f := HV.out.1.f 6
  simp only at k6
  obtain ⟨U, hU⟩ : ∃ U, U = V.setCell ⟨R, 6, none⟩ (.int .i64 8) := ⟨_, rfl⟩
  have HU : Hid (Below w1.heap.size w1 U ∧ Bxd U R ⟨2, 1, 2, 1, 1, 8, 64, 0, ea, en, ec, wa, wn, wc, na, nn, nc⟩) := by
    have S : Sans (fun j => j = R) V U := by rw [hU]; exact Sans.of_set _ _ _ rfl
    have hb := HV.out.2.1.size
    refine ⟨HV.out.2.1.trans (S.below (B := w1.heap.size) hb (fun j e => by omega)), ?_⟩
    obtain ⟨y0, y1, y2, y3, y4, y5, y6, y7, y8, y9, y10⟩ := HV.out.1.x
    rw [hU]
    exact ⟨cell_set y0 (by omega), cell_set y1 (by omega), cell_set y2 (by omega), cell_set y3 (by omega), cell_set y4 (by omega), cell_set y5 (by omega), World.cell?_setCell_same _ _ _ y6, cell_set y7 (by omega), cell_set y8 (by omega), cell_set y9 (by omega), cell_set y10 (by omega)⟩
  clear hR
  go_upto_region 3 with fail
  rw [← hU]
  clear hU k6 k6f
  have HPU : Hid (PlN U ⟨2, 1, 2, 1, 1, 8, 64, 0, ea, en, ec, wa, wn, wc, na, nn, nc⟩ esK [1] rsK) := PlN.every (HP0.out.below HU.out.1) 8 (by unfold I64; omega)
  have HBU : Hid (Below w.heap.size w U) := later HB1.out HU.out.1
  have HA : Hid (∀ u, Below U.heap.size U u → Calls Tryz.prog 11 #[.agg #[.int .i64 2, .slice ea en ec, .int .i64 1, .int .i64 2, .int .i64 1, .int .i64 1, .int .i64 8, .int .i64 64, .slice wa wn wc, .int .u16 0, .slice na nn nc], .int .i64 0] u fun e u' => ∃ q F, e = .returned (.pointer (some ⟨q, 0, none⟩)) ∧ NAt u' F q (cK 0) (st0 (cK 0) 0) 0 ∧ Below u.heap.size u u' ∧ ∀ k, F k → u.heap.size ≤ k) := fun u hu => by
    have hh := new_known (HPU.out.below hu) HG.out rfl rfl rfl rfl rfl rfl rfl rfl 0 (by omega)
    unfold PV.val at hh
    simp only at hh
    exact hh
  have HB : Hid (∀ u, Below U.heap.size U u → Calls Tryz.prog 11 #[.agg #[.int .i64 2, .slice ea en ec, .int .i64 1, .int .i64 2, .int .i64 1, .int .i64 1, .int .i64 8, .int .i64 64, .slice wa wn wc, .int .u16 0, .slice na nn nc], .int .i64 1] u fun e u' => ∃ q F, e = .returned (.pointer (some ⟨q, 0, none⟩)) ∧ NAt u' F q (cK 1) (st0 (cK 1) 0) 0 ∧ Below u.heap.size u u' ∧ ∀ k, F k → u.heap.size ≤ k) := fun u hu => by
    have hh := new_known (HPU.out.below hu) HG.out rfl rfl rfl rfl rfl rfl rfl rfl 1 (by omega)
    unfold PV.val at hh
    simp only at hh
    exact hh
  have HC : Hid (∀ u, Below U.heap.size U u → Calls Tryz.prog 11 #[.agg #[.int .i64 2, .slice ea en ec, .int .i64 1, .int .i64 2, .int .i64 1, .int .i64 1, .int .i64 8, .int .i64 64, .slice wa wn wc, .int .u16 0, .slice na nn nc], .int .i64 2] u fun e u' => e = .returned (.pointer none) ∧ Below u.heap.size u u') := fun u hu => by
    have hh := none_known (HPU.out.below hu) rfl
    unfold PV.val at hh
    simp only at hh
    exact hh
  obtain ⟨x0, x1, x2, x3, x4, x5, x6, x7, x8, x9, x10⟩ := HU.out.2
  simp only at x0 x1 x2 x3 x4 x5 x6 x7 x8 x9 x10
  go_wp2_with fail
  refine (HA.out U (Below.refl _ _)).mono ?_
  rintro e w2 ⟨qa, FA, rfl, hna, hB2, hFA⟩
  have HNa : Hid _ := And.intro hna (And.intro hB2 hFA)
  have HX2 : Hid _ := HU.out.2.below hB2
  clear hna hB2 hFA x0 x1 x2 x3 x4 x5 x6 x7 x8 x9 x10
  obtain ⟨x0, x1, x2, x3, x4, x5, x6, x7, x8, x9, x10⟩ := HX2.out
  simp only at x0 x1 x2 x3 x4 x5 x6 x7 x8 x9 x10
  go_wp2_with fail
  refine (HB.out w2 HNa.out.2.1).mono ?_
  rintro e w3 ⟨qb, FB, rfl, hnb, hB3, hFB⟩
  have HTw : Hid (Two U w3 qa qb (st0 (cK 0) 0) (st0 (cK 1) 0) 0) := ⟨FA, FB, HNa.out.1.below hB3, hnb, fun j h1 h2 => by have := hFB j h2; have := HNa.out.1.foot j h1; omega, HNa.out.2.2, fun j h => Nat.le_trans HNa.out.2.1.size (hFB j h), later HNa.out.2.1 hB3, HT.out.below HBU.out HT.out.lt⟩
  clear hnb hB3 hFB x0 x1 x2 x3 x4 x5 x6 x7 x8 x9 x10
  go_wp2_with fail
  refine (t_hostA HTw.out).mono ?_
  rintro e w4 ⟨⟨p1, rfl⟩, e4⟩
  have HT4 : Hid (Two U w4 qa qb (st0 (cK 0) 0) (st0 (cK 1) 0) 0) := by rw [e4]; exact HTw.out
  clear e4
  go_wp2_with fail
  refine (t_hostB HT4.out).mono ?_
  rintro e w5 ⟨⟨p2, F2, rfl, _⟩, e5⟩
  have HT5 : Hid (Two U w5 qa qb (st0 (cK 0) 0) (st0 (cK 1) 0) 0) := by rw [e5]; exact HT4.out
  clear e5
  go_wp2_with fail
  refine (t_rings HT5.out).mono ?_
  rintro e w6 ⟨⟨p3, rfl⟩, e6⟩
  have HT6 : Hid (Two U w6 qa qb (st0 (cK 0) 0) (st0 (cK 1) 0) 0) := by rw [e6]; exact HT5.out
  clear e6
  go_wp2_with fail
  refine (t_send HT6.out).mono ?_
  rintro e w7 ⟨⟨p4, rfl⟩, h7⟩
  have HT7 : Hid _ := h7
  clear h7
  go_wp2_with fail
  refine (t_recv HT7.out).mono ?_
  rintro e w8 ⟨⟨p5, rfl⟩, h8⟩
  have HT8 : Hid _ := h8
  clear h8
  go_wp2_with fail
  refine (t_inject HT8.out ⟨0, 1, 0, 7⟩ (by decide)).mono ?_
  rintro e w9 ⟨rfl, h9⟩
  rw [show injE (cK 0) (st0 (cK 0) 0) ⟨0, 1, 0, 7⟩ = 0 from ex1]
  have HT9 : Hid (Two U w9 qa qb sA (st0 (cK 1) 0) 1) := h9
  clear h9
  go_wp2_with fail
  refine (t_tickA HT9.out (by omega) ex2).mono ?_
  rintro e w10 ⟨g, cg, a, n, cp, rfl, g0, g1, ho, hn, hc, h10⟩
  have HT10 : Hid (Two U w10 qa qb (tick (cK 0) sA).1 (st0 (cK 1) 0) 41) := h10
  have HOc : Hid (Octs w10 a n byK ∧ n ≤ cp ∧ cp ≤ 9223372036854775807) := ⟨ho, hn, hc⟩
  clear h10 ho hn hc
  go_wp2_with fail
  refine (t_take HT10.out (by omega) HOc.out.1 HOc.out.2.1 HOc.out.2.2).mono ?_
  rintro e w11 ⟨rfl, h11⟩
  rw [ex3]
  have HT11 : Hid (Two U w11 qa qb (tick (cK 0) sA).1 sB 44) := h11
  clear h11 g0 g1
  go_wp2_with fail
  refine (t_tickB HT11.out (by omega)).mono ?_
  rintro e w12 ⟨v12, rfl, h12⟩
  have HT12 : Hid _ := h12
  clear h12
  go_wp2_with fail
  refine (t_hostB HT12.out).mono ?_
  rintro e w13 ⟨⟨p6, F6, rfl, hla⟩, e13⟩
  rw [ex4] at hla
  have HT13 : Hid (Two U w13 qa qb (tick (cK 0) sA).1 (tick (cK 1) sB).1 84) := by rw [e13]; exact HT12.out
  rw [← e13] at hla
  have HLa : Hid _ := hla
  clear e13 hla
  go_wp2_with fail
  refine (K.hGot_any HLa.out (by simp)).mono ?_
  rintro e w14 ⟨v14, rfl, hrow, hB14⟩
  have HT14 : Hid (Two U w14 qa qb (tick (cK 0) sA).1 (tick (cK 1) sB).1 84) := HT13.out.below hB14
  obtain ⟨g4, c4, rfl, _⟩ := owns_pos hrow (by simp)
  have q3 : w14.cell? ⟨g4, 3, none⟩ = some (.int .u32 7) := hrow.cellAt 3 (by simp)
  have HB14 : Hid (Below U.heap.size U w14) := HT14.out.base
  clear hrow hB14
  obtain ⟨x0, x1, x2, x3, x4, x5, x6, x7, x8, x9, x10⟩ := HU.out.2.below HB14.out
  simp only at x0 x1 x2 x3 x4 x5 x6 x7 x8 x9 x10
  go_wp2_with fail
  refine (HC.out w14 HB14.out).mono ?_
  rintro e w15 ⟨rfl, hB15⟩
  have HT15 : Hid (Two U w15 qa qb (tick (cK 0) sA).1 (tick (cK 1) sB).1 84) := HT14.out.below hB15
  clear hB15 x0 x1 x2 x3 x4 x5 x6 x7 x8 x9 x10 q3
  go_wp2_with fail
  refine (t_inject HT15.out ⟨1, 0, 0, 0⟩ (by decide)).mono ?_
  rintro e w16 ⟨rfl, h16⟩
  rw [ex5]
  have HT16 : Hid (Two U w16 qa qb (inj (cK 0) (tick (cK 0) sA).1 ⟨1, 0, 0, 0⟩) (tick (cK 1) sB).1 85) := h16
  clear h16
  go_wp2_with fail
  refine (t_send0 HT16.out).mono ?_
  rintro e w17 ⟨rfl, h17⟩
  have h18 : Two U w17 qa qb (inj (cK 0) (tick (cK 0) sA).1 ⟨1, 0, 0, 0⟩) (tick (cK 1) sB).1 85 := h17
  have HE : Hid (Below w.heap.size w w17) := later HBU.out h18.base
  clear h17 h18
  go_wp2_with fail
  go_ret
  exact ⟨rfl, HE.out⟩
end Nd
end Go.Proofs.YtniicgbkeifnjaaGreatDoor
