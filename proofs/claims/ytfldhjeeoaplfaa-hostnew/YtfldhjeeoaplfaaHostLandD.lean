/-
  Package host, as it landed: Next; all that package host is to come to. Conditions: none but that the host is such.
-/
import Derived.Test.YtfldhjeeoaplfaaHostLandC
namespace Go.Proofs.Ytfldhjeeoaplfaa
open Go.ChangeShapes Go.WideShapes Go.ChangeAt Go.RowKit
set_option linter.unusedVariables false

section
variable {w : World} {F : Nat → Prop} {p n q : Nat} {L G : List Pk}
set_option maxHeartbeats 2000000 in
set_option maxRecDepth 100000 in
theorem hNext_none (h : LAt w F p n q L G) (z : Int) (hl : Hst.lane L z = []) :
    Calls Try.prog 10 #[.pointer (some ⟨p, 0, none⟩), .int .i64 z] w fun e w' => e = .returned (.tuple #[.agg #[.int .i64 0, .int .i64 0, .int .i64 0, .int .u32 0], .bool false]) ∧ Below w.heap.size w w' := by
  obtain ⟨W, hW⟩ : ∃ W, W = w.alloc (.cells #[.int .i64 0, .int .i64 0, .int .i64 0, .int .u32 0] 27) := ⟨_, rfl⟩
  have HB : Hid (Below w.heap.size w W) := by rw [hW]; exact fresh _ _
  have HL : Hid (LAt W F p n q L G ∧ (Hst.lane L z).length = 0) := ⟨h.sans (E := fun _ => False) (Sans.of_below HB.out) (fun _ _ e => e), by rw [hl]; rfl⟩
  have H4 : Hid (Four W w.heap.size) := by rw [hW]; exact Four.new _ _ _ _ _ _
  clear h hl
  go_enter Try.func10, Try.ntmps10
  go_wp2_with fail
  rw [← hW]
  clear hW
  refine (hWaits_any HL.out.1 z HL.out.2).mono ?_
  rintro e w1 ⟨rfl, hw1⟩
  obtain rfl := hw1.symm
  obtain ⟨⟨v0, r0⟩, ⟨v1, r1⟩, ⟨v2, r2⟩, ⟨v3, r3⟩, f0, f1, f2, f3⟩ := H4.out
  go_wp2_with fail
  have s5 : Below w.heap.size w (lay4 W w.heap.size 0 zpk) := lay4_below HB.out (Nat.le_refl _)
  exact bodyPost_ret (v := .tuple #[.agg #[.int .i64 0, .int .i64 0, .int .i64 0, .int .u32 0], .bool false]) (by simp [results, Try.results10, go_sem, r0, r1, r2, r3]) rfl ⟨rfl, s5⟩
set_option maxHeartbeats 8000000 in
set_option maxRecDepth 100000 in
theorem hNext_some (h : LAt w F p n q L G) {k : Nat} (hkn : k < n) {x : Pk} {r : List Pk} (hl : Hst.lane L (k : Nat) = x :: r) :
    Calls Try.prog 10 #[.pointer (some ⟨p, 0, none⟩), .int .i64 k] w fun e w' => e = .returned (.tuple #[.agg #[.int .i64 x.s, .int .i64 x.d, .int .i64 x.l, .int .u32 x.b], .bool true]) ∧ ∃ F', LAt w' F' p n q (Hst.drop1 L k) G ∧ Grows F w F' w' := by
  have hF := h.fit.drop1 k
  have HFt : Hid (Hst.Fits n q (Hst.drop1 L k)) := hF
  have HLA : Hid (LAt w F p n q L G) := h
  obtain ⟨A, C, b, cb, h⟩ := h
  have hk : k < 3 := by have := h.fit.n3; omega
  have HK : Hid (k < 3) := hk
  have hk3 : (k : Int) < 3 := by omega
  obtain ⟨m, hm⟩ : ∃ m, r.length = m := ⟨_, rfl⟩
  have hmq : m ≤ 64 := by
    have h1 := h.fit.room k
    have h2 := h.fit.q8
    rw [hl, List.length_cons, hm] at h1
    omega
  have HM : Hid ((Hst.lane L (k : Nat)).length = m + 1 ∧ r.length = m ∧ Hst.lane L (k : Nat) = x :: r) := ⟨by rw [hl, List.length_cons, hm], hm, hl⟩
  have hpl := h.foot p h.self
  have hrow := h.rowq k hk
  rw [HM.out.1, hl] at hrow
  obtain ⟨g, cap, hA⟩ : ∃ g cap, A k = some ⟨g, 0, none⟩ ∧ C k = cap := by
    rcases hrow.2 with ⟨_, e⟩ | ⟨g, cp, cur, e, _⟩
    · omega
    · simp only [Value.slice.injEq] at e
      exact ⟨g, _, e.1, rfl⟩
  rw [hA.1, hA.2] at hrow
  have HA : Hid (A k = some ⟨g, 0, none⟩ ∧ C k = cap) := hA
  have hgF := (h.headq k hk _ hA.1)
  have hgl := h.foot g hgF.1
  have hgp : ¬ g = p := hgF.2
  obtain ⟨W, hW⟩ : ∃ W, W = w.alloc (.cells #[.int .i64 0, .int .i64 0, .int .i64 0, .int .u32 0] 27) := ⟨_, rfl⟩
  have bel : Below w.heap.size w W := by rw [hW]; exact fresh _ _
  have HB : Hid (Below w.heap.size w W) := bel
  have HR : Hid (LIn w F p n q L G A C b cb) := h
  have H4 : Hid (Four W w.heap.size) := by rw [hW]; exact Four.new _ _ _ _ _ _
  have HL : Hid (LAt W F p n q L G) := HLA.out.sans (E := fun _ => False) (Sans.of_below bel) (fun _ _ e => e)
  have kq : W.cell? ⟨p, 2 + k, none⟩ = some (.slice (some ⟨g, 0, none⟩) (m + 1) cap) := by
    rw [(h.below bel).cq k hk, HM.out.1, hA.1, hA.2]
  have hrow0 : w.ownsRow 0 27 4 (.slice (some ⟨g, 0, none⟩) (x :: r).length cap) (x :: r).length (kcells (x :: r)) := by
    rw [List.length_cons, hm]
    exact hrow
  obtain ⟨g', ea, _, hat⟩ := PRow.at (base := 0) (len := (x :: r).length) (cap := cap) (xs := x :: r) hrow0 (j := 0) (x := x) rfl
  simp only [Option.some.injEq, Addr.mk.injEq, and_true] at ea
  subst ea
  obtain ⟨q0, q1, q2, q3⟩ := (show PkAt W g (0 * 4) x from hat.below bel)
  simp only [Nat.zero_mul, Nat.zero_add] at q0 q1 q2 q3
  have HO : Hid (w.ownsRow 0 27 4 (.slice (some ⟨g, 0, none⟩) (m + 1) cap) (m + 1) (kcells (x :: r))) := hrow
  have hpw : ¬ p = w.heap.size := by omega
  have hpw2 : ¬ w.heap.size = p := by omega
  have hgw : ¬ g = w.heap.size := by omega
  have g1 : (((m : Int) + 1) == 0) = false := by simp; omega
  have g2 : (0 : Int) < (m : Int) + 1 := by omega
  obtain ⟨U, hU⟩ : ∃ U, U = W.alloc (.cells #[.int .i64 x.s, .int .i64 x.d, .int .i64 x.l, .int .u32 x.b] 27) := ⟨_, rfl⟩
  have HU : Hid (Below w.heap.size w U) := by rw [hU]; exact later bel (fresh _ _)
  have HX : Hid (PkAt U W.heap.size 0 x) := by rw [hU]; exact PkAt.new W x
  have H4U : Hid (Four U w.heap.size) := by rw [hU]; exact H4.out.below (fresh _ _)
  have hwW : w.heap.size < W.heap.size := H4.out.lt
  have hWU : W.heap.size < U.heap.size := HX.out.lt
  have HS : Hid (∀ u, Sans (fun j => j = g) U.drew u → u.cell? ⟨p, 2 + k, none⟩ = some (.slice (some ⟨g, 0, none⟩) (m + 1) cap) ∧ u.frozen? ⟨p, 2 + k, none⟩ = false ∧ PkAt u W.heap.size 0 x ∧ Four u w.heap.size) := by
    intro u hS
    have hS : Sans (fun j => j = g) U u := (Sans.drew U).then hS
    have hpU : p < U.heap.size := by omega
    have hI := HR.out.below HU.out
    refine ⟨(hS.cell (p := ⟨p, 2 + k, none⟩) hpU (fun e => hgp e.symm)).trans ?_, (hS.frozen (p := ⟨p, 2 + k, none⟩) hpU (fun e => hgp e.symm)).trans (hI.fq k HK.out), HX.out.sans hS (by omega), H4U.out.sans hS (by omega)⟩
    rw [hI.cq k HK.out, HM.out.1, HA.out.1, HA.out.2]
  have HE : Hid (∀ u, Sans (fun j => j = g) U.drew u → u.ownsRow 0 27 4 (.slice (some ⟨g, 0, none⟩) m cap) m (kcells r) → ∃ F', LAt (lay4 (u.setCell ⟨p, 2 + k, none⟩ (.slice (some ⟨g, 0, none⟩) m cap)) w.heap.size 0 x) F' p n q (Hst.drop1 L k) G ∧ Grows F w F' (lay4 (u.setCell ⟨p, 2 + k, none⟩ (.slice (some ⟨g, 0, none⟩) m cap)) w.heap.size 0 x)) := by
    intro u hS hown
    have hS : Sans (fun j => j = g) U u := (Sans.drew U).then hS
    have hlr : Hst.lane (Hst.drop1 L k) (k : Nat) = r := by rw [Hst.lane_drop1, HM.out.2.2]; rfl
    obtain ⟨F', t1, t2⟩ := (HR.out.below HU.out).turn HK.out (L' := Hst.drop1 L k) (g := g) (c2 := cap) (len' := m) (hS.mono (fun j e => ⟨_, HA.out.1, e.symm⟩)) (by rw [hlr]; exact hown) (.inl ⟨_, HA.out.1, rfl⟩) (by rw [hlr]; exact HM.out.2.1) (fun j hj => Hst.lane_drop1_not L (fun e => hj (by omega))) HFt.out
    have s5 := lay4_sans (u.setCell ⟨p, 2 + k, none⟩ (.slice (some ⟨g, 0, none⟩) m cap)) w.heap.size 0 x
    refine ⟨F', t1.sans s5 (fun j hj e => (t2.2 j hj).elim (fun h1 => ?_) (fun h1 => by omega)), ?_, fun j hj => (t2.2 j hj).imp id (fun e => by omega)⟩
    · have := HR.out.foot j h1
      omega
    · exact ((Sans.of_below HU.out).then t2.1).trans s5 (fun j e => .inr (by omega))
  clear h hl hm hrow hA hgF hF bel hrow0 hat hk
  go_enter Try.func10, Try.ntmps10
  go_wp2_with fail
  rw [← hW]
  clear hW
  refine (hWaits_any HL.out k HM.out.1).mono ?_
  rintro e w1 ⟨rfl, hw1⟩
  obtain rfl := hw1.symm
  go_upto_region 4 with fail
  rw [← hU]
  have kU : U.cell? ⟨p, 2 + k, none⟩ = some (.slice (some ⟨g, 0, none⟩) (m + 1) cap) := by
    rw [(HR.out.below HU.out).cq k HK.out, HM.out.1, HA.out.1, HA.out.2]
  have HKU : Hid (U.drew.cell? ⟨p, 2 + k, none⟩ = some (.slice (some ⟨g, 0, none⟩) (m + 1) cap)) := kU
  have HOU : Hid (U.drew.ownsRow 0 27 4 (.slice (some ⟨g, 0, none⟩) (m + 1) cap) (m + 1) (kcells (x :: r))) := by
    have h1 := owns_below HO.out HU.out
    exact h1
  clear hU kq q0 q1 q2 q3
  go_region_with (go_at_call 22; refine (pdel_any HOU.out HM.out.2.1 hmq).mono ?_; rintro e u ⟨rfl, hown, hS⟩; have HSS : Hid (Sans (fun j => j = g) U.drew u ∧ u.ownsRow 0 27 4 (.slice (some ⟨g, 0, none⟩) m cap) m (kcells r)) := ⟨hS, hown⟩; clear hown hS; obtain ⟨K1, s1, ⟨x0, x1, x2, x3⟩, ⟨⟨v0, r0⟩, ⟨v1, r1⟩, ⟨v2, r2⟩, ⟨v3, r3⟩, f0, f1, f2, f3⟩⟩ := HS.out u HSS.out.1)
  all_goals
    go_wp2_with fail
    obtain ⟨F', t1, t2⟩ := HE.out u HSS.out.1 HSS.out.2
    exact bodyPost_ret (v := .tuple #[.agg #[.int .i64 x.s, .int .i64 x.d, .int .i64 x.l, .int .u32 x.b], .bool true]) (by simp [results, Try.results10, go_sem, r0, r1, r2, r3]) rfl ⟨rfl, F', t1, t2⟩
theorem hNext_any (h : LAt w F p n q L G) (z : Int) {x : Pk} {b : Bool} (hx : Hst.hdk (Hst.lane L z) = x) (hb : (!(Hst.lane L z).isEmpty) = b) {L' : List Pk} (hL' : Hst.drop1 L z = L') :
    Calls Try.prog 10 #[.pointer (some ⟨p, 0, none⟩), .int .i64 z] w fun e w' => e = .returned (.tuple #[.agg #[.int .i64 x.s, .int .i64 x.d, .int .i64 x.l, .int .u32 x.b], .bool b]) ∧ ∃ F', LAt w' F' p n q L' G ∧ Grows F w F' w' := by
  cases hl : Hst.lane L z with
  | nil =>
    rw [hl] at hx hb
    subst hx hb
    have hd : Hst.drop1 L z = L := by
      unfold Hst.drop1
      refine List.eraseP_of_forall_not (fun y hy e => ?_)
      have : y ∈ Hst.lane L z := List.mem_filter.2 ⟨hy, e⟩
      rw [hl] at this
      simp at this
    rw [hd] at hL'
    subst hL'
    exact (hNext_none h z hl).mono fun e w' ⟨he, hb⟩ => ⟨he, F, h.sans (E := fun _ => False) (Sans.of_below hb) (fun _ _ e => e), grows_below F hb⟩
  | cons y r =>
    rw [hl] at hx hb
    subst hx hb hL'
    have hz : 0 ≤ z ∧ z < n := by
      rcases Classical.em (z < 0 ∨ (n : Int) ≤ z) with h1 | h1
      · have := h.fit.out h1
        rw [hl] at this
        cases this
      · omega
    obtain ⟨k, rfl⟩ : ∃ k : Nat, z = k := ⟨z.toNat, by omega⟩
    exact hNext_some h (by omega) hl
end
/-- package host comes to what its chapter says -/
theorem hostSpec : HostSpec LAt where
  foot h := h.foot
  fit h := h.fit
  sans h k hd := h.sans k hd
  new_yes n q h1 h2 w := hNew_yes n q h1 h2 w
  new_no a b _ _ h w := (hNew_no a b h w).mono fun e w' ⟨he, hw⟩ => ⟨he, by rw [hw]; exact Below.refl _ _⟩
  put h x _ _ hz _ hL := hPut_any h x hz hL
  next h k _ _ hx _ hb _ hL := hNext_any h k hx hb hL
  waits h k _ _ hc := (hWaits_any h k hc).mono fun e w' ⟨he, hw⟩ => ⟨he, by rw [hw]; exact Below.refl _ _⟩
  eject h x hG := hEject_any h x hG
  got h hG := hGot_any h hG
end Go.Proofs.Ytfldhjeeoaplfaa
