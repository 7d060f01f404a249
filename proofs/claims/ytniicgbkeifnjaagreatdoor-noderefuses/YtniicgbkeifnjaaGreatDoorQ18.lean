/-
  Contracts and plain facts that the walks lean on (HostLandD, NodeAt). Conditions: none but those that each states.
-/
import Derived.Test.YtniicgbkeifnjaaGreatDoorQ17
import Derived.Test.YtniicgbkeifnjaaGreatDoorQ15
namespace Go.Proofs.YtniicgbkeifnjaaGreatDoor.K
open Go.ChangeShapes Go.WideShapes Go.ChangeAt Go.RowKit
set_option linter.unusedVariables false
set_option maxRecDepth 100000
section
variable {w : World} {F : Nat → Prop} {p n q : Nat} {L G : List Pk}
set_option maxHeartbeats 2000000 in
set_option maxRecDepth 100000 in
theorem hNext_none (h : LAt w F p n q L G) (z : Int) (hl : Hst.lane L z = []) :
    Calls Tryz.prog 102 #[.pointer (some ⟨p, 0, none⟩), .int .i64 z] w fun e w' => e = .returned (.tuple #[.agg #[.int .i64 0, .int .i64 0, .int .i64 0, .int .u32 0], .bool false]) ∧ Below w.heap.size w w' := by
  obtain ⟨W, hW⟩ : ∃ W, W = w.alloc (.cells #[.int .i64 0, .int .i64 0, .int .i64 0, .int .u32 0] 25) := ⟨_, rfl⟩
  have HB : Hid (Below w.heap.size w W) := by rw [hW]; exact fresh _ _
  have HL : Hid (LAt W F p n q L G ∧ (Hst.lane L z).length = 0) := ⟨h.sans (E := fun _ => False) (Sans.of_below HB.out) (fun _ _ e => e), by rw [hl]; rfl⟩
  have H4 : Hid (Four W w.heap.size) := by rw [hW]; exact Four.new _ _ _ _ _ _
  clear h hl
  go_enter Tryz.func102, Tryz.ntmps102
  go_wp2_with fail
  rw [← hW]
  clear hW
  refine (hWaits_any HL.out.1 z HL.out.2).mono ?_
  rintro e w1 ⟨rfl, hw1⟩
  obtain rfl := hw1.symm
  obtain ⟨⟨v0, r0⟩, ⟨v1, r1⟩, ⟨v2, r2⟩, ⟨v3, r3⟩, f0, f1, f2, f3⟩ := H4.out
  go_wp2_with fail
  have s5 : Below w.heap.size w (lay4 W w.heap.size 0 zpk) := lay4_below HB.out (Nat.le_refl _)
  exact bodyPost_ret (v := .tuple #[.agg #[.int .i64 0, .int .i64 0, .int .i64 0, .int .u32 0], .bool false]) (by simp [results, Tryz.results102, go_sem, r0, r1, r2, r3]) rfl ⟨rfl, s5⟩
set_option maxHeartbeats 8000000 in
set_option maxRecDepth 100000 in
theorem hNext_some (h : LAt w F p n q L G) {k : Nat} (hkn : k < n) {x : Pk} {r : List Pk} (hl : Hst.lane L (k : Nat) = x :: r) :
    Calls Tryz.prog 102 #[.pointer (some ⟨p, 0, none⟩), .int .i64 k] w fun e w' => e = .returned (.tuple #[.agg #[.int .i64 x.s, .int .i64 x.d, .int .i64 x.l, .int .u32 x.b], .bool true]) ∧ ∃ F', LAt w' F' p n q (Hst.drop1 L k) G ∧ Grows F w F' w' := by
  have hF := h.fit.drop1 k
  have HFt : Hid (Hst.Fits n q (Hst.drop1 L k)) := hF
  have HLA : Hid (LAt w F p n q L G) := h
  obtain ⟨A, C, b, cb, h⟩ := h
  have hk : k < 3 := by have := h.fit.n3; omega
  have HK : Hid (k < 3) := hk
  have hk3 : (k : Int) < 3 := by omega
  obtain ⟨m, hm⟩ : ∃ m, r.length = m := ⟨_, rfl⟩
  have hmq : m ≤ 64 := by
    have h1 := h.fit.room k
    have h2 := h.fit.q8
    rw [hl, List.length_cons, hm] at h1
    omega
  have HM : Hid ((Hst.lane L (k : Nat)).length = m + 1 ∧ r.length = m ∧ Hst.lane L (k : Nat) = x :: r) := ⟨by rw [hl, List.length_cons, hm], hm, hl⟩
  have hpl := h.foot p h.self
  have hrow := h.rowq k hk
  rw [HM.out.1, hl] at hrow
  obtain ⟨g, cap, hA⟩ : ∃ g cap, A k = some ⟨g, 0, none⟩ ∧ C k = cap := by
    rcases hrow.2 with ⟨_, e⟩ | ⟨g, cp, cur, e, _⟩
    · omega
    · simp only [Value.slice.injEq] at e
      exact ⟨g, _, e.1, rfl⟩
  rw [hA.1, hA.2] at hrow
  have HA : Hid (A k = some ⟨g, 0, none⟩ ∧ C k = cap) := hA
  have hgF := (h.headq k hk _ hA.1)
  have hgl := h.foot g hgF.1
  have hgp : ¬ g = p := hgF.2
  obtain ⟨W, hW⟩ : ∃ W, W = w.alloc (.cells #[.int .i64 0, .int .i64 0, .int .i64 0, .int .u32 0] 25) := ⟨_, rfl⟩
  have bel : Below w.heap.size w W := by rw [hW]; exact fresh _ _
  have HB : Hid (Below w.heap.size w W) := bel
  have HR : Hid (LIn w F p n q L G A C b cb) := h
  have H4 : Hid (Four W w.heap.size) := by rw [hW]; exact Four.new _ _ _ _ _ _
  have HL : Hid (LAt W F p n q L G) := HLA.out.sans (E := fun _ => False) (Sans.of_below bel) (fun _ _ e => e)
  have kq : W.cell? ⟨p, 2 + k, none⟩ = some (.slice (some ⟨g, 0, none⟩) (m + 1) cap) := by
    rw [(h.below bel).cq k hk, HM.out.1, hA.1, hA.2]
  have hrow0 : w.ownsRow 0 25 4 (.slice (some ⟨g, 0, none⟩) (x :: r).length cap) (x :: r).length (kcells (x :: r)) := by
    rw [List.length_cons, hm]
    exact hrow
  obtain ⟨g', ea, _, hat⟩ := PRow.at (base := 0) (len := (x :: r).length) (cap := cap) (xs := x :: r) hrow0 (j := 0) (x := x) rfl
  simp only [Option.some.injEq, Addr.mk.injEq, and_true] at ea
  subst ea
  obtain ⟨q0, q1, q2, q3⟩ := (show PkAt W g (0 * 4) x from hat.below bel)
  simp only [Nat.zero_mul, Nat.zero_add] at q0 q1 q2 q3
  have HO : Hid (w.ownsRow 0 25 4 (.slice (some ⟨g, 0, none⟩) (m + 1) cap) (m + 1) (kcells (x :: r))) := hrow
  have hpw : ¬ p = w.heap.size := by omega
  have hpw2 : ¬ w.heap.size = p := by omega
  have hgw : ¬ g = w.heap.size := by omega
  have g1 : (((m : Int) + 1) == 0) = false := by simp; omega
  have g2 : (0 : Int) < (m : Int) + 1 := by omega
  obtain ⟨U, hU⟩ : ∃ U, U = W.alloc (.cells #[.int .i64 x.s, .int .i64 x.d, .int .i64 x.l, .int .u32 x.b] 25) := ⟨_, rfl⟩
  have HU : Hid (Below w.heap.size w U) := by rw [hU]; exact later bel (fresh _ _)
  have HX : Hid (PkAt U W.heap.size 0 x) := by rw [hU]; exact PkAt.new W x
  have H4U : Hid (Four U w.heap.size) := by rw [hU]; exact H4.out.below (fresh _ _)
  have hwW : w.heap.size < W.heap.size := H4.out.lt
  have hWU : W.heap.size < U.heap.size := HX.out.lt
  have HS : Hid (∀ u, Sans (fun j => j = g) U.drew u → u.cell? ⟨p, 2 + k, none⟩ = some (.slice (some ⟨g, 0, none⟩) (m + 1) cap) ∧ u.frozen? ⟨p, 2 + k, none⟩ = false ∧ PkAt u W.heap.size 0 x ∧ Four u w.heap.size) := by
    intro u hS
    have hS : Sans (fun j => j = g) U u := (Sans.drew U).then hS
    have hpU : p < U.heap.size := by omega
    have hI := HR.out.below HU.out
    refine ⟨(hS.cell (p := ⟨p, 2 + k, none⟩) hpU (fun e => hgp e.symm)).trans ?_, (hS.frozen (p := ⟨p, 2 + k, none⟩) hpU (fun e => hgp e.symm)).trans (hI.fq k HK.out), HX.out.sans hS (by omega), H4U.out.sans hS (by omega)⟩
    rw [hI.cq k HK.out, HM.out.1, HA.out.1, HA.out.2]
  have HE : Hid (∀ u, Sans (fun j => j = g) U.drew u → u.ownsRow 0 25 4 (.slice (some ⟨g, 0, none⟩) m cap) m (kcells r) → ∃ F', LAt (lay4 (u.setCell ⟨p, 2 + k, none⟩ (.slice (some ⟨g, 0, none⟩) m cap)) w.heap.size 0 x) F' p n q (Hst.drop1 L k) G ∧ Grows F w F' (lay4 (u.setCell ⟨p, 2 + k, none⟩ (.slice (some ⟨g, 0, none⟩) m cap)) w.heap.size 0 x)) := by
    intro u hS hown
    have hS : Sans (fun j => j = g) U u := (Sans.drew U).then hS
    have hlr : Hst.lane (Hst.drop1 L k) (k : Nat) = r := by rw [Hst.lane_drop1, HM.out.2.2]; rfl
    obtain ⟨F', t1, t2⟩ := (HR.out.below HU.out).turn HK.out (L' := Hst.drop1 L k) (g := g) (c2 := cap) (len' := m) (hS.mono (fun j e => ⟨_, HA.out.1, e.symm⟩)) (by rw [hlr]; exact hown) (.inl ⟨_, HA.out.1, rfl⟩) (by rw [hlr]; exact HM.out.2.1) (fun j hj => Hst.lane_drop1_not L (fun e => hj (by omega))) HFt.out
    have s5 := lay4_sans (u.setCell ⟨p, 2 + k, none⟩ (.slice (some ⟨g, 0, none⟩) m cap)) w.heap.size 0 x
    refine ⟨F', t1.sans s5 (fun j hj e => (t2.2 j hj).elim (fun h1 => ?_) (fun h1 => by omega)), ?_, fun j hj => (t2.2 j hj).imp id (fun e => by omega)⟩
    · have := HR.out.foot j h1
      omega
    · exact ((Sans.of_below HU.out).then t2.1).trans s5 (fun j e => .inr (by omega))
  clear h hl hm hrow hA hgF hF bel hrow0 hat hk
  go_enter Tryz.func102, Tryz.ntmps102
  go_wp2_with fail
  rw [← hW]
  clear hW
  refine (hWaits_any HL.out k HM.out.1).mono ?_
  rintro e w1 ⟨rfl, hw1⟩
  obtain rfl := hw1.symm
  go_upto_region 4 with fail
  rw [← hU]
  have kU : U.cell? ⟨p, 2 + k, none⟩ = some (.slice (some ⟨g, 0, none⟩) (m + 1) cap) := by
    rw [(HR.out.below HU.out).cq k HK.out, HM.out.1, HA.out.1, HA.out.2]
  have HKU : Hid (U.drew.cell? ⟨p, 2 + k, none⟩ = some (.slice (some ⟨g, 0, none⟩) (m + 1) cap)) := kU
  have HOU : Hid (U.drew.ownsRow 0 25 4 (.slice (some ⟨g, 0, none⟩) (m + 1) cap) (m + 1) (kcells (x :: r))) := by
    have h1 := owns_below HO.out HU.out
    exact h1
  clear hU kq q0 q1 q2 q3
  go_region_with (go_at_call 162; refine (pdel_any HOU.out HM.out.2.1 hmq).mono ?_; rintro e u ⟨rfl, hown, hS⟩; have HSS : Hid (Sans (fun j => j = g) U.drew u ∧ u.ownsRow 0 25 4 (.slice (some ⟨g, 0, none⟩) m cap) m (kcells r)) := ⟨hS, hown⟩; clear hown hS; obtain ⟨K1, s1, ⟨x0, x1, x2, x3⟩, ⟨⟨v0, r0⟩, ⟨v1, r1⟩, ⟨v2, r2⟩, ⟨v3, r3⟩, f0, f1, f2, f3⟩⟩ := HS.out u HSS.out.1)
  all_goals
    go_wp2_with fail
    obtain ⟨F', t1, t2⟩ := HE.out u HSS.out.1 HSS.out.2
    exact bodyPost_ret (v := .tuple #[.agg #[.int .i64 x.s, .int .i64 x.d, .int .i64 x.l, .int .u32 x.b], .bool true]) (by simp [results, Tryz.results102, go_sem, r0, r1, r2, r3]) rfl ⟨rfl, F', t1, t2⟩
theorem hNext_any (h : LAt w F p n q L G) (z : Int) {x : Pk} {b : Bool} (hx : Hst.hdk (Hst.lane L z) = x) (hb : (!(Hst.lane L z).isEmpty) = b) {L' : List Pk} (hL' : Hst.drop1 L z = L') :
    Calls Tryz.prog 102 #[.pointer (some ⟨p, 0, none⟩), .int .i64 z] w fun e w' => e = .returned (.tuple #[.agg #[.int .i64 x.s, .int .i64 x.d, .int .i64 x.l, .int .u32 x.b], .bool b]) ∧ ∃ F', LAt w' F' p n q L' G ∧ Grows F w F' w' := by
  cases hl : Hst.lane L z with
  | nil =>
    rw [hl] at hx hb
    subst hx hb
    have hd : Hst.drop1 L z = L := by
      unfold Hst.drop1
      refine List.eraseP_of_forall_not (fun y hy e => ?_)
      have : y ∈ Hst.lane L z := List.mem_filter.2 ⟨hy, e⟩
      rw [hl] at this
      simp at this
    rw [hd] at hL'
    subst hL'
    exact (hNext_none h z hl).mono fun e w' ⟨he, hb⟩ => ⟨he, F, h.sans (E := fun _ => False) (Sans.of_below hb) (fun _ _ e => e), grows_below F hb⟩
  | cons y r =>
    rw [hl] at hx hb
    subst hx hb hL'
    have hz : 0 ≤ z ∧ z < n := by
      rcases Classical.em (z < 0 ∨ (n : Int) ≤ z) with h1 | h1
      · have := h.fit.out h1
        rw [hl] at this
        cases this
      · omega
    obtain ⟨k, rfl⟩ : ∃ k : Nat, z = k := ⟨z.toNat, by omega⟩
    exact hNext_some h (by omega) hl
end
end Go.Proofs.YtniicgbkeifnjaaGreatDoor.K
namespace Go.Proofs.YtniicgbkeifnjaaGreatDoor
open Go.ChangeShapes Go.WideShapes Go.ChangeAt Go.RowKit
set_option linter.unusedVariables false
set_option maxRecDepth 100000
namespace Nd
structure Lb where
  t : Nat
  i : Nat
  k : Nat
abbrev Lb.p : Lb := ⟨0, 0, 0⟩
abbrev Lb.pb : Lb := ⟨1, 0, 0⟩
abbrev Lb.wb : Lb := ⟨2, 0, 0⟩
abbrev Lb.wq (i : Nat) : Lb := ⟨3, i, 0⟩
abbrev Lb.xb (i : Nat) : Lb := ⟨4, i, 0⟩
abbrev Lb.fb (i : Nat) : Lb := ⟨5, i, 0⟩
abbrev Lb.lb (i : Nat) : Lb := ⟨6, i, 0⟩
abbrev Lb.sq (i k : Nat) : Lb := ⟨7, i, k⟩
abbrev Lb.rq (i k : Nat) : Lb := ⟨8, i, k⟩
abbrev Lb.pa : Lb := ⟨9, 0, 0⟩
abbrev Lb.ga : Lb := ⟨10, 0, 0⟩
abbrev Lb.aa : Lb := ⟨11, 0, 0⟩
def Lb.ok (c : Cfg) : Lb → Prop
  | ⟨0, 0, 0⟩ => True
  | ⟨1, 0, 0⟩ => True
  | ⟨2, 0, 0⟩ => True
  | ⟨3, i, 0⟩ => i < c.P
  | ⟨4, i, 0⟩ => i < c.P
  | ⟨5, i, 0⟩ => i < c.P
  | ⟨6, i, 0⟩ => 1 ≤ i ∧ i < c.P
  | ⟨7, i, k⟩ => 1 ≤ i ∧ i < c.P ∧ k < c.L
  | ⟨8, i, k⟩ => 1 ≤ i ∧ i < c.P ∧ k < c.L
  | ⟨9, 0, 0⟩ => True
  | ⟨10, 0, 0⟩ => True
  | ⟨11, 0, 0⟩ => True
  | _ => False
theorem Lb.forms {c : Cfg} {x : Lb} (h : x.ok c) : x = .p ∨ x = .pb ∨ x = .wb ∨ (∃ i, x = .wq i) ∨ (∃ i, x = .xb i) ∨ (∃ i, x = .fb i) ∨ (∃ i, x = .lb i) ∨ (∃ i k, x = .sq i k) ∨ (∃ i k, x = .rq i k) ∨ x = .pa ∨ x = .ga ∨ x = .aa := by
  unfold Lb.ok at h
  split at h <;> simp at h ⊢
structure CfgOk (c : Cfg) : Prop where
  L3 : 1 ≤ c.L ∧ c.L ≤ 3
  room8 : 1 ≤ c.room ∧ c.room ≤ 8
  q8 : 1 ≤ c.q ∧ c.q ≤ 8
  rounds4 : 1 ≤ c.rounds ∧ c.rounds ≤ 4
  every8 : 1 ≤ c.every ∧ c.every ≤ 8
  N6 : 2 ≤ c.N ∧ c.N ≤ 6
  P6 : c.P ≤ 6
  P2 : 2 ≤ c.P
  vN : c.v < c.N
  way : ∀ d, d < c.N → c.way d < c.P
  bs : ∀ x ∈ c.bs, 0 ≤ x ∧ x < (c.N : Int) ∧ x ≠ (c.v : Int)
structure StOk (c : Cfg) (s : St) (m : Nat) : Prop where
  sn : ∀ i k, 1 ≤ i → i < c.P → k < c.L → (s.s i k).1 ≤ 70000 + 16 * (m : Int)
  rn : ∀ i k, 1 ≤ i → i < c.P → k < c.L → (s.r i k).1 ≤ 70000 + 16 * (m : Int)
  kn : s.k ≤ m
  gn : s.hG.length ≤ m
  hd : ∀ x ∈ s.hL, (0 ≤ x.d ∧ x.d < (c.N : Int)) ∧ 0 ≤ x.b ∧ x.b < 4294967296
  qd : ∀ q, ∀ x ∈ s.Q q, 0 ≤ x.b ∧ x.b < 4294967296
theorem StOk.mono {c : Cfg} {s : St} {m m' : Nat} (h : StOk c s m) (k : m ≤ m') : StOk c s m' :=
  ⟨fun i j a b d => by have := h.sn i j a b d; omega, fun i j a b d => by have := h.rn i j a b d; omega, Nat.le_trans h.kn k, Nat.le_trans h.gn k, h.hd, h.qd⟩
def toV (c : Cfg) (i : Nat) : Int := if i = 0 then (c.v : Int) else c.dst i
structure NIn (w : World) (F FH FR : Nat → Prop) (B : Lb → Nat) (ph pr : Nat) (c : Cfg) (s : St) (m : Nat) : Prop where
  foot : ∀ k, F k → k < w.heap.size
  zero : ¬ F 0
  own : ∀ x, x.ok c → F (B x) ∧ ¬ FH (B x) ∧ ¬ FR (B x)
  inj : ∀ x y, x.ok c → y.ok c → B x = B y → x = y
  hF : ∀ k, FH k → F k ∧ ¬ FR k
  rF : ∀ k, FR k → F k
  c0 : w.cell? ⟨B .p, 0, none⟩ = some (.int .i64 (c.v : Nat))
  c1 : w.cell? ⟨B .p, 1, none⟩ = some (.int .i64 (c.L : Nat))
  c2 : w.cell? ⟨B .p, 2, none⟩ = some (.int .i64 (c.room : Nat))
  c3 : w.cell? ⟨B .p, 3, none⟩ = some (.int .i64 (c.rounds : Nat))
  c4 : w.cell? ⟨B .p, 4, none⟩ = some (.int .i64 (c.every : Nat))
  c5 : w.cell? ⟨B .p, 5, none⟩ = some (.int .i64 (s.k : Nat))
  f5 : w.frozen? ⟨B .p, 5, none⟩ = false
  c6 : ∃ pc, c.P ≤ pc ∧ pc ≤ maxLen ∧ w.cell? ⟨B .p, 6, none⟩ = some (.slice (some ⟨B .pb, 0, none⟩) c.P pc)
  c7 : ∃ wc, w.cell? ⟨B .p, 7, none⟩ = some (.slice (some ⟨B .wb, 0, none⟩) c.N wc)
  c8 : w.cell? ⟨B .p, 8, none⟩ = some (.pointer (some ⟨ph, 0, none⟩))
  c9 : w.cell? ⟨B .p, 9, none⟩ = some (.pointer (some ⟨pr, 0, none⟩))
  c10 : w.cell? ⟨B .p, 10, none⟩ = some (.pointer (some ⟨B .pa, 0, none⟩))
  rows : ∀ i, i < c.P → w.cell? ⟨B .pb, i * 3, none⟩ = some (.pointer (some ⟨B (.wq i), 0, none⟩)) ∧ w.cell? ⟨B .pb, i * 3 + 1, none⟩ = some (.int .i64 (toV c i))
  row0 : w.cell? ⟨B .pb, 2, none⟩ = some (.slice none 0 0)
  rowl : ∀ i, 1 ≤ i → i < c.P → ∃ lc, w.cell? ⟨B .pb, i * 3 + 2, none⟩ = some (.slice (some ⟨B (.lb i), 0, none⟩) c.L lc)
  lanes : ∀ i k, 1 ≤ i → i < c.P → k < c.L → w.cell? ⟨B (.lb i), k * 2, none⟩ = some (.pointer (some ⟨B (.sq i k), 0, none⟩)) ∧ w.cell? ⟨B (.lb i), k * 2 + 1, none⟩ = some (.pointer (some ⟨B (.rq i k), 0, none⟩))
  ways : ∀ d, d < c.N → w.cell? ⟨B .wb, d, none⟩ = some (.int .i64 (c.way d : Nat))
  whl : ∀ i, i < c.P → Whl w (B (.wq i)) (B (.xb i)) (B (.fb i)) c.L c.wt (s.wl i) (s.wf i)
  snd : ∀ i k, 1 ≤ i → i < c.P → k < c.L → Cr.Snd w (B (.sq i k)) (s.s i k).1 (s.s i k).2
  rcv : ∀ i k, 1 ≤ i → i < c.P → k < c.L → Bf.Rcv w (B (.rq i k)) (s.r i k).1 (c.room : Nat) (s.r i k).2
  host : K.LAt w FH ph c.L c.q s.hL s.hG
  rings : K.RAt w FR pr c.P c.L c.n s.t m s.Q
  arb : M.Arb w (B .pa) (B .ga) (B .aa) c.P s.g s.a
  cfg : CfgOk c
  st : StOk c s m
section
variable {w w' : World} {F FH FR E F' FH' FR' : Nat → Prop} {B : Lb → Nat} {ph pr : Nat} {c : Cfg} {s s' : St} {m m' : Nat}
theorem NIn.turn (h : NIn w F FH FR B ph pr c s m) (k : Sans E w w') (hp : ¬ E (B .p)) (hpb : ¬ E (B .pb)) (hwb : ¬ E (B .wb)) (hlb : ∀ i, 1 ≤ i → i < c.P → ¬ E (B (.lb i)))
    (foot : ∀ k, F' k → k < w'.heap.size) (zero : ¬ F' 0) (own : ∀ x, x.ok c → F' (B x) ∧ ¬ FH' (B x) ∧ ¬ FR' (B x)) (hF : ∀ k, FH' k → F' k ∧ ¬ FR' k) (rF : ∀ k, FR' k → F' k) (hk : s'.k = s.k)
    (whl : ∀ i, i < c.P → Whl w' (B (.wq i)) (B (.xb i)) (B (.fb i)) c.L c.wt (s'.wl i) (s'.wf i))
    (snd : ∀ i k, 1 ≤ i → i < c.P → k < c.L → Cr.Snd w' (B (.sq i k)) (s'.s i k).1 (s'.s i k).2)
    (rcv : ∀ i k, 1 ≤ i → i < c.P → k < c.L → Bf.Rcv w' (B (.rq i k)) (s'.r i k).1 (c.room : Nat) (s'.r i k).2)
    (host : K.LAt w' FH' ph c.L c.q s'.hL s'.hG) (rings : K.RAt w' FR' pr c.P c.L c.n s'.t m' s'.Q) (arb : M.Arb w' (B .pa) (B .ga) (B .aa) c.P s'.g s'.a) (st : StOk c s' m') : NIn w' F' FH' FR' B ph pr c s' m' := by
  have lp := h.foot _ (h.own .p trivial).1
  have lpb := h.foot _ (h.own .pb trivial).1
  have lwb := h.foot _ (h.own .wb trivial).1
  have ep : ∀ j, w'.cell? ⟨B .p, j, none⟩ = w.cell? ⟨B .p, j, none⟩ := fun j => k.cell (p := ⟨B .p, j, none⟩) lp hp
  have epb : ∀ j, w'.cell? ⟨B .pb, j, none⟩ = w.cell? ⟨B .pb, j, none⟩ := fun j => k.cell (p := ⟨B .pb, j, none⟩) lpb hpb
  have ewb : ∀ j, w'.cell? ⟨B .wb, j, none⟩ = w.cell? ⟨B .wb, j, none⟩ := fun j => k.cell (p := ⟨B .wb, j, none⟩) lwb hwb
  have elb : ∀ i, 1 ≤ i → i < c.P → ∀ j, w'.cell? ⟨B (.lb i), j, none⟩ = w.cell? ⟨B (.lb i), j, none⟩ := fun i h1 h2 j => k.cell (p := ⟨B (.lb i), j, none⟩) (h.foot _ (h.own (.lb i) ⟨h1, h2⟩).1) (hlb i h1 h2)
  obtain ⟨pc, p1, p2, p3⟩ := h.c6
  obtain ⟨wc, q1⟩ := h.c7
  exact ⟨foot, zero, own, h.inj, hF, rF, (ep _).trans h.c0, (ep _).trans h.c1, (ep _).trans h.c2, (ep _).trans h.c3, (ep _).trans h.c4, (ep _).trans (by rw [hk]; exact h.c5), (k.frozen (p := ⟨B .p, 5, none⟩) lp hp).trans h.f5, ⟨pc, p1, p2, (ep _).trans p3⟩, ⟨wc, (ep _).trans q1⟩, (ep _).trans h.c8, (ep _).trans h.c9, (ep _).trans h.c10,
    fun i hi => ⟨(epb _).trans (h.rows i hi).1, (epb _).trans (h.rows i hi).2⟩, (epb _).trans h.row0, fun i h1 h2 => by obtain ⟨lc, e⟩ := h.rowl i h1 h2; exact ⟨lc, (epb _).trans e⟩,
    fun i j h1 h2 h3 => ⟨(elb i h1 h2 _).trans (h.lanes i j h1 h2 h3).1, (elb i h1 h2 _).trans (h.lanes i j h1 h2 h3).2⟩, fun d hd => (ewb _).trans (h.ways d hd), whl, snd, rcv, host, rings, arb, h.cfg, st⟩
theorem NIn.sans (h : NIn w F FH FR B ph pr c s m) (k : Sans E w w') (hd : ∀ k, F k → ¬ E k) : NIn w' F FH FR B ph pr c s m := by
  have hx : ∀ x, x.ok c → ¬ E (B x) := fun x hx => hd _ (h.own x hx).1
  exact h.turn k (hx .p trivial) (hx .pb trivial) (hx .wb trivial) (fun i h1 h2 => hx (.lb i) ⟨h1, h2⟩) (fun j hj => Nat.lt_of_lt_of_le (h.foot j hj) k.size) h.zero h.own h.hF h.rF rfl
    (fun i hi => (h.whl i hi).sans k (hx (.wq i) hi) (hx (.xb i) hi) (hx (.fb i) hi)) (fun i j h1 h2 h3 => (h.snd i j h1 h2 h3).sans k (hx (.sq i j) ⟨h1, h2, h3⟩)) (fun i j h1 h2 h3 => (h.rcv i j h1 h2 h3).sans k (hx (.rq i j) ⟨h1, h2, h3⟩))
    (h.host.sans k (fun j hj => hd j (h.hF j hj).1)) (h.rings.sans k (fun j hj => hd j (h.rF j hj))) (h.arb.sans k (hx .pa trivial) (hx .ga trivial) (hx .aa trivial)) h.st
theorem NIn.below (h : NIn w F FH FR B ph pr c s m) (k : Below w.heap.size w w') : NIn w' F FH FR B ph pr c s m := h.sans (E := fun _ => False) (Sans.of_below k) (fun _ _ e => e)
theorem NIn.mono (h : NIn w F FH FR B ph pr c s m) (k : m ≤ m') : NIn w F FH FR B ph pr c s m' := by
  have hs : Sans (fun _ => False) w w := Sans.refl _ _
  exact h.turn hs (fun e => e) (fun e => e) (fun e => e) (fun _ _ _ e => e) h.foot h.zero h.own h.hF h.rF rfl h.whl h.snd h.rcv h.host (h.rings.mono k) h.arb (h.st.mono k)
theorem NIn.ne (h : NIn w F FH FR B ph pr c s m) {x y : Lb} (hx : x.ok c) (hy : y.ok c) (e : x ≠ y) : B x ≠ B y := fun e2 => e (h.inj x y hx hy e2)
theorem NIn.upSnd (h : NIn w F FH FR B ph pr c s m) {i l : Nat} (h1 : 1 ≤ i) (h2 : i < c.P) (h3 : l < c.L) (k : Sans (fun j => j = B (.sq i l)) w w') {v : Int × Int} (hv : Cr.Snd w' (B (.sq i l)) v.1 v.2) (hb : v.1 ≤ 70000 + 16 * ((m + 1 : Nat) : Int)) :
    NIn w' F FH FR B ph pr c { s with s := up2 s.s i l v } (m + 1) := by
  have ok : Lb.ok c (.sq i l) := ⟨h1, h2, h3⟩
  have hx : ∀ x, x.ok c → x ≠ .sq i l → ¬ B x = B (.sq i l) := fun x hx e => h.ne hx ok e
  have hn := h.own _ ok
  refine h.turn k (hx .p trivial (by simp)) (hx .pb trivial (by simp)) (hx .wb trivial (by simp)) (fun j h1 h2 => hx (.lb j) ⟨h1, h2⟩ (by simp)) (fun j hj => Nat.lt_of_lt_of_le (h.foot j hj) k.size) h.zero h.own h.hF h.rF rfl
    (fun j hj => (h.whl j hj).sans k (hx (.wq j) hj (by simp)) (hx (.xb j) hj (by simp)) (hx (.fb j) hj (by simp))) (fun j z a1 a2 a3 => ?_) (fun j z a1 a2 a3 => (h.rcv j z a1 a2 a3).sans k (hx (.rq j z) ⟨a1, a2, a3⟩ (by simp)))
    (h.host.sans k (fun j hj e => hn.2.1 (e ▸ hj))) ((h.rings.sans k (fun j hj e => hn.2.2 (e ▸ hj))).mono (Nat.le_succ _)) (h.arb.sans k (hx .pa trivial (by simp)) (hx .ga trivial (by simp)) (hx .aa trivial (by simp))) ?_
  · by_cases e : j = i ∧ z = l
    · obtain ⟨rfl, rfl⟩ := e
      simp only [up2_same]
      exact hv
    · simp only [up2_not _ _ e]
      exact (h.snd j z a1 a2 a3).sans k (hx (.sq j z) ⟨a1, a2, a3⟩ (fun e2 => e (by simpa using e2)))
  · have hs := h.st.mono (Nat.le_succ m)
    refine ⟨fun j z a1 a2 a3 => ?_, hs.rn, hs.kn, hs.gn, hs.hd, hs.qd⟩
    by_cases e : j = i ∧ z = l
    · obtain ⟨rfl, rfl⟩ := e
      simp only [up2_same]
      exact hb
    · simp only [up2_not _ _ e]
      exact hs.sn j z a1 a2 a3
theorem NIn.upRcv (h : NIn w F FH FR B ph pr c s m) {i l : Nat} (h1 : 1 ≤ i) (h2 : i < c.P) (h3 : l < c.L) (k : Sans (fun j => j = B (.rq i l)) w w') {v : Int × Int} (hv : Bf.Rcv w' (B (.rq i l)) v.1 (c.room : Nat) v.2) (hb : v.1 ≤ 70000 + 16 * ((m + 1 : Nat) : Int)) :
    NIn w' F FH FR B ph pr c { s with r := up2 s.r i l v } (m + 1) := by
  have ok : Lb.ok c (.rq i l) := ⟨h1, h2, h3⟩
  have hx : ∀ x, x.ok c → x ≠ .rq i l → ¬ B x = B (.rq i l) := fun x hx e => h.ne hx ok e
  have hn := h.own _ ok
  refine h.turn k (hx .p trivial (by simp)) (hx .pb trivial (by simp)) (hx .wb trivial (by simp)) (fun j h1 h2 => hx (.lb j) ⟨h1, h2⟩ (by simp)) (fun j hj => Nat.lt_of_lt_of_le (h.foot j hj) k.size) h.zero h.own h.hF h.rF rfl
    (fun j hj => (h.whl j hj).sans k (hx (.wq j) hj (by simp)) (hx (.xb j) hj (by simp)) (hx (.fb j) hj (by simp))) (fun j z a1 a2 a3 => (h.snd j z a1 a2 a3).sans k (hx (.sq j z) ⟨a1, a2, a3⟩ (by simp))) (fun j z a1 a2 a3 => ?_)
    (h.host.sans k (fun j hj e => hn.2.1 (e ▸ hj))) ((h.rings.sans k (fun j hj e => hn.2.2 (e ▸ hj))).mono (Nat.le_succ _)) (h.arb.sans k (hx .pa trivial (by simp)) (hx .ga trivial (by simp)) (hx .aa trivial (by simp))) ?_
  · by_cases e : j = i ∧ z = l
    · obtain ⟨rfl, rfl⟩ := e
      simp only [up2_same]
      exact hv
    · simp only [up2_not _ _ e]
      exact (h.rcv j z a1 a2 a3).sans k (hx (.rq j z) ⟨a1, a2, a3⟩ (fun e2 => e (by simpa using e2)))
  · have hs := h.st.mono (Nat.le_succ m)
    refine ⟨hs.sn, fun j z a1 a2 a3 => ?_, hs.kn, hs.gn, hs.hd, hs.qd⟩
    by_cases e : j = i ∧ z = l
    · obtain ⟨rfl, rfl⟩ := e
      simp only [up2_same]
      exact hb
    · simp only [up2_not _ _ e]
      exact hs.rn j z a1 a2 a3
theorem NIn.upWhl (h : NIn w F FH FR B ph pr c s m) {i : Nat} (h2 : i < c.P) (k : Sans (fun j => j = B (.wq i) ∨ j = B (.fb i)) w w') {lf : Nat → Int} {fr : Nat} (hv : Whl w' (B (.wq i)) (B (.xb i)) (B (.fb i)) c.L c.wt lf fr) :
    NIn w' F FH FR B ph pr c { s with wl := up1 s.wl i lf, wf := up1 s.wf i fr } m := by
  have ok1 : Lb.ok c (.wq i) := h2
  have ok2 : Lb.ok c (.fb i) := h2
  have hx : ∀ x, x.ok c → x ≠ .wq i → x ≠ .fb i → ¬ (B x = B (.wq i) ∨ B x = B (.fb i)) := fun x hx e1 e2 e => e.elim (h.ne hx ok1 e1) (h.ne hx ok2 e2)
  have n1 := h.own _ ok1
  have n2 := h.own _ ok2
  refine h.turn k (hx .p trivial (by simp) (by simp)) (hx .pb trivial (by simp) (by simp)) (hx .wb trivial (by simp) (by simp)) (fun j h1 h2 => hx (.lb j) ⟨h1, h2⟩ (by simp) (by simp)) (fun j hj => Nat.lt_of_lt_of_le (h.foot j hj) k.size) h.zero h.own h.hF h.rF rfl
    (fun j hj => ?_) (fun j z a1 a2 a3 => (h.snd j z a1 a2 a3).sans k (hx (.sq j z) ⟨a1, a2, a3⟩ (by simp) (by simp))) (fun j z a1 a2 a3 => (h.rcv j z a1 a2 a3).sans k (hx (.rq j z) ⟨a1, a2, a3⟩ (by simp) (by simp)))
    (h.host.sans k (fun j hj e => e.elim (fun e => n1.2.1 (e ▸ hj)) (fun e => n2.2.1 (e ▸ hj)))) (h.rings.sans k (fun j hj e => e.elim (fun e => n1.2.2 (e ▸ hj)) (fun e => n2.2.2 (e ▸ hj)))) (h.arb.sans k (hx .pa trivial (by simp) (by simp)) (hx .ga trivial (by simp) (by simp)) (hx .aa trivial (by simp) (by simp))) ⟨h.st.sn, h.st.rn, h.st.kn, h.st.gn, h.st.hd, h.st.qd⟩
  by_cases e : j = i
  · subst e
    simp only [up1_same]
    exact hv
  · simp only [up1_not _ _ e]
    exact (h.whl j hj).sans k (hx (.wq j) hj (fun e2 => e (by simpa using e2)) (by simp)) (hx (.xb j) hj (by simp) (by simp)) (hx (.fb j) hj (by simp) (fun e2 => e (by simpa using e2)))
theorem NIn.upArb (h : NIn w F FH FR B ph pr c s m) (k : Sans (fun j => j = B .ga ∨ j = B .aa) w w') {g a : Nat → Nat} (hv : M.Arb w' (B .pa) (B .ga) (B .aa) c.P g a) : NIn w' F FH FR B ph pr c { s with g := g, a := a } m := by
  have ok1 : Lb.ok c .ga := trivial
  have ok2 : Lb.ok c .aa := trivial
  have hx : ∀ x, x.ok c → x ≠ .ga → x ≠ .aa → ¬ (B x = B .ga ∨ B x = B .aa) := fun x hx e1 e2 e => e.elim (h.ne hx ok1 e1) (h.ne hx ok2 e2)
  have n1 := h.own _ ok1
  have n2 := h.own _ ok2
  exact h.turn k (hx .p trivial (by simp) (by simp)) (hx .pb trivial (by simp) (by simp)) (hx .wb trivial (by simp) (by simp)) (fun j h1 h2 => hx (.lb j) ⟨h1, h2⟩ (by simp) (by simp)) (fun j hj => Nat.lt_of_lt_of_le (h.foot j hj) k.size) h.zero h.own h.hF h.rF rfl
    (fun j hj => (h.whl j hj).sans k (hx (.wq j) hj (by simp) (by simp)) (hx (.xb j) hj (by simp) (by simp)) (hx (.fb j) hj (by simp) (by simp))) (fun j z a1 a2 a3 => (h.snd j z a1 a2 a3).sans k (hx (.sq j z) ⟨a1, a2, a3⟩ (by simp) (by simp))) (fun j z a1 a2 a3 => (h.rcv j z a1 a2 a3).sans k (hx (.rq j z) ⟨a1, a2, a3⟩ (by simp) (by simp)))
    (h.host.sans k (fun j hj e => e.elim (fun e => n1.2.1 (e ▸ hj)) (fun e => n2.2.1 (e ▸ hj)))) (h.rings.sans k (fun j hj e => e.elim (fun e => n1.2.2 (e ▸ hj)) (fun e => n2.2.2 (e ▸ hj)))) hv ⟨h.st.sn, h.st.rn, h.st.kn, h.st.gn, h.st.hd, h.st.qd⟩
theorem NIn.pos (h : NIn w F FH FR B ph pr c s m) : 0 < w.heap.size := Nat.lt_of_le_of_lt (Nat.zero_le _) (h.foot _ (h.own .p trivial).1)
theorem NIn.upHost (h : NIn w F FH FR B ph pr c s m) (k : K.Grows FH w FH' w') {L G : List Pk} (hv : K.LAt w' FH' ph c.L c.q L G) (hL : ∀ x ∈ L, (0 ≤ x.d ∧ x.d < (c.N : Int)) ∧ 0 ≤ x.b ∧ x.b < 4294967296) (hG : G.length ≤ m + 1) :
    NIn w' (fun j => F j ∨ FH' j) FH' FR B ph pr c { s with hL := L, hG := G } (m + 1) ∧ K.Grows F w (fun j => F j ∨ FH' j) w' := by
  obtain ⟨ks, kg⟩ := k
  have hx : ∀ x, x.ok c → ¬ FH (B x) := fun x hx => (h.own x hx).2.1
  have hs := h.st.mono (Nat.le_succ m)
  refine ⟨h.turn ks (hx .p trivial) (hx .pb trivial) (hx .wb trivial) (fun i h1 h2 => hx (.lb i) ⟨h1, h2⟩) (fun j hj => hj.elim (fun e => Nat.lt_of_lt_of_le (h.foot j e) ks.size) (fun e => hv.foot j e)) (fun e => e.elim h.zero (fun e => (kg 0 e).elim (fun e => h.zero (h.hF 0 e).1) (fun e => by have := h.pos; omega)))
    (fun x hx2 => ⟨.inl (h.own x hx2).1, fun e => (kg _ e).elim (hx x hx2) (fun e => by have := h.foot _ (h.own x hx2).1; omega), (h.own x hx2).2.2⟩) (fun j hj => ⟨.inr hj, fun e => (kg j hj).elim (fun e2 => (h.hF j e2).2 e) (fun e2 => by have := h.foot j (h.rF j e); omega)⟩) (fun j hj => .inl (h.rF j hj)) rfl
    (fun i hi => (h.whl i hi).sans ks (hx (.wq i) hi) (hx (.xb i) hi) (hx (.fb i) hi)) (fun i j h1 h2 h3 => (h.snd i j h1 h2 h3).sans ks (hx (.sq i j) ⟨h1, h2, h3⟩)) (fun i j h1 h2 h3 => (h.rcv i j h1 h2 h3).sans ks (hx (.rq i j) ⟨h1, h2, h3⟩))
    hv ((h.rings.sans ks (fun j hj e => (h.hF j e).2 hj)).mono (Nat.le_succ _)) (h.arb.sans ks (hx .pa trivial) (hx .ga trivial) (hx .aa trivial)) ⟨hs.sn, hs.rn, hs.kn, hG, hL, hs.qd⟩, ks.mono (fun j e => (h.hF j e).1), fun j hj => hj.elim .inl (fun e => (kg j e).elim (fun e => .inl (h.hF j e).1) .inr)⟩
theorem NIn.upRings (h : NIn w F FH FR B ph pr c s m) (k : K.Grows FR w FR' w') {t : Nat} {Q : K.Pl → List Pk} (hv : K.RAt w' FR' pr c.P c.L c.n t (m + 1) Q) (hQ : ∀ q, ∀ x ∈ Q q, 0 ≤ x.b ∧ x.b < 4294967296) :
    NIn w' (fun j => F j ∨ FR' j) FH FR' B ph pr c { s with t := t, Q := Q } (m + 1) ∧ K.Grows F w (fun j => F j ∨ FR' j) w' := by
  obtain ⟨ks, kg⟩ := k
  have hx : ∀ x, x.ok c → ¬ FR (B x) := fun x hx => (h.own x hx).2.2
  have hs := h.st.mono (Nat.le_succ m)
  refine ⟨h.turn ks (hx .p trivial) (hx .pb trivial) (hx .wb trivial) (fun i h1 h2 => hx (.lb i) ⟨h1, h2⟩) (fun j hj => hj.elim (fun e => Nat.lt_of_lt_of_le (h.foot j e) ks.size) (fun e => hv.foot j e)) (fun e => e.elim h.zero (fun e => (kg 0 e).elim (fun e => h.zero (h.rF 0 e)) (fun e => by have := h.pos; omega)))
    (fun x hx2 => ⟨.inl (h.own x hx2).1, (h.own x hx2).2.1, fun e => (kg _ e).elim (hx x hx2) (fun e => by have := h.foot _ (h.own x hx2).1; omega)⟩) (fun j hj => ⟨.inl (h.hF j hj).1, fun e => (kg j e).elim (fun e2 => (h.hF j hj).2 e2) (fun e2 => by have := h.foot j (h.hF j hj).1; omega)⟩) (fun j hj => .inr hj) rfl
    (fun i hi => (h.whl i hi).sans ks (hx (.wq i) hi) (hx (.xb i) hi) (hx (.fb i) hi)) (fun i j h1 h2 h3 => (h.snd i j h1 h2 h3).sans ks (hx (.sq i j) ⟨h1, h2, h3⟩)) (fun i j h1 h2 h3 => (h.rcv i j h1 h2 h3).sans ks (hx (.rq i j) ⟨h1, h2, h3⟩))
    (h.host.sans ks (fun j hj e => (h.hF j hj).2 e)) hv (h.arb.sans ks (hx .pa trivial) (hx .ga trivial) (hx .aa trivial)) ⟨hs.sn, hs.rn, hs.kn, hs.gn, hs.hd, hQ⟩, ks.mono (fun j e => h.rF j e), fun j hj => hj.elim .inl (fun e => (kg j e).elim (fun e => .inl (h.rF j e)) .inr)⟩
theorem NIn.upTick (h : NIn w F FH FR B ph pr c s m) : NIn (w.setCell ⟨B .p, 5, none⟩ (.int .i64 ((s.k + 1 : Nat) : Int))) F FH FR B ph pr c { s with k := s.k + 1 } (m + 1) ∧ Sans F w (w.setCell ⟨B .p, 5, none⟩ (.int .i64 ((s.k + 1 : Nat) : Int))) := by
  have ok : Lb.ok c .p := trivial
  have hx : ∀ x, x.ok c → x ≠ .p → ¬ B x = B .p := fun x hx e => h.ne hx ok e
  have hn := h.own _ ok
  have k : Sans (fun j => j = B .p) w (w.setCell ⟨B .p, 5, none⟩ (.int .i64 ((s.k + 1 : Nat) : Int))) := Sans.of_set w _ _ rfl
  have epb : ∀ j, (w.setCell ⟨B .p, 5, none⟩ (.int .i64 ((s.k + 1 : Nat) : Int))).cell? ⟨B .pb, j, none⟩ = w.cell? ⟨B .pb, j, none⟩ := fun j => k.cell (p := ⟨B .pb, j, none⟩) (h.foot _ (h.own .pb trivial).1) (hx .pb trivial (by simp))
  have ewb : ∀ j, (w.setCell ⟨B .p, 5, none⟩ (.int .i64 ((s.k + 1 : Nat) : Int))).cell? ⟨B .wb, j, none⟩ = w.cell? ⟨B .wb, j, none⟩ := fun j => k.cell (p := ⟨B .wb, j, none⟩) (h.foot _ (h.own .wb trivial).1) (hx .wb trivial (by simp))
  have elb : ∀ i, 1 ≤ i → i < c.P → ∀ j, (w.setCell ⟨B .p, 5, none⟩ (.int .i64 ((s.k + 1 : Nat) : Int))).cell? ⟨B (.lb i), j, none⟩ = w.cell? ⟨B (.lb i), j, none⟩ := fun i h1 h2 j => k.cell (p := ⟨B (.lb i), j, none⟩) (h.foot _ (h.own (.lb i) ⟨h1, h2⟩).1) (hx (.lb i) ⟨h1, h2⟩ (by simp))
  have hs := h.st.mono (Nat.le_succ m)
  obtain ⟨pc, p1, p2, p3⟩ := h.c6
  obtain ⟨wc, q1⟩ := h.c7
  refine ⟨⟨fun j hj => Nat.lt_of_lt_of_le (h.foot j hj) k.size, h.zero, h.own, h.inj, h.hF, h.rF, cell_set h.c0 (by omega), cell_set h.c1 (by omega), cell_set h.c2 (by omega), cell_set h.c3 (by omega), cell_set h.c4 (by omega), World.cell?_setCell_same _ _ _ h.c5, by rw [World.frozen?_setCell]; exact h.f5, ⟨pc, p1, p2, cell_set p3 (by omega)⟩, ⟨wc, cell_set q1 (by omega)⟩, cell_set h.c8 (by omega), cell_set h.c9 (by omega), cell_set h.c10 (by omega),
    fun i hi => ⟨(epb _).trans (h.rows i hi).1, (epb _).trans (h.rows i hi).2⟩, (epb _).trans h.row0, fun i h1 h2 => by obtain ⟨lc, e⟩ := h.rowl i h1 h2; exact ⟨lc, (epb _).trans e⟩,
    fun i j h1 h2 h3 => ⟨(elb i h1 h2 _).trans (h.lanes i j h1 h2 h3).1, (elb i h1 h2 _).trans (h.lanes i j h1 h2 h3).2⟩, fun d hd => (ewb _).trans (h.ways d hd),
    fun i hi => (h.whl i hi).sans k (hx (.wq i) hi (by simp)) (hx (.xb i) hi (by simp)) (hx (.fb i) hi (by simp)), fun i j h1 h2 h3 => (h.snd i j h1 h2 h3).sans k (hx (.sq i j) ⟨h1, h2, h3⟩ (by simp)), fun i j h1 h2 h3 => (h.rcv i j h1 h2 h3).sans k (hx (.rq i j) ⟨h1, h2, h3⟩ (by simp)),
    h.host.sans k (fun j hj e => hn.2.1 (e ▸ hj)), (h.rings.sans k (fun j hj e => hn.2.2 (e ▸ hj))).mono (Nat.le_succ _), h.arb.sans k (hx .pa trivial (by simp)) (hx .ga trivial (by simp)) (hx .aa trivial (by simp)), h.cfg, ⟨hs.sn, hs.rn, Nat.succ_le_succ h.st.kn, hs.gn, hs.hd, hs.qd⟩⟩, k.mono (fun j e => by rw [e]; exact hn.1)⟩
end
end Nd
end Go.Proofs.YtniicgbkeifnjaaGreatDoor
