/-
  What package host is to come to (contracts, as a structure), on a host of the call's own; the helper known of package shunterlaw15. Conditions: none but that package host comes to what HostSpec says.
-/
import Derived.Test.YtfldhjeeoaplfaaHostMath
import Derived.Test.YtfldhjeeoaplfaaOwns
namespace Go.Proofs.Ytfldhjeeoaplfaa
open Go.ChangeShapes Go.WideShapes Go.ChangeAt Go.RowKit
set_option linter.unusedVariables false

/-- a number of 64 bits -/
def Hst.Z64 (z : Int) : Prop := -9223372036854775808 ≤ z ∧ z ≤ 9223372036854775807
/-- H w F p n q L G: block p holds a host of n lanes, q packets in each; L waits, G came; all its memory is in F -/
abbrev HostRel := World → (Nat → Prop) → Nat → Nat → Nat → List Pk → List Pk → Prop
structure HostSpec (H : HostRel) : Prop where
  foot : ∀ {w : World} {F : Nat → Prop} {p n q : Nat} {L G : List Pk}, H w F p n q L G → ∀ k, F k → k < w.heap.size
  fit : ∀ {w : World} {F : Nat → Prop} {p n q : Nat} {L G : List Pk}, H w F p n q L G → Hst.Fits n q L
  sans : ∀ {w w' : World} {F E : Nat → Prop} {p n q : Nat} {L G : List Pk}, H w F p n q L G → Sans E w w' → (∀ k, F k → ¬ E k) → H w' F p n q L G
  new_yes : ∀ (n q : Nat), (1 ≤ n ∧ n ≤ 3) → (1 ≤ q ∧ q ≤ 8) → ∀ w : World,
    Calls Try.prog 8 #[.int .i64 n, .int .i64 q] w fun e w' => ∃ p F, e = .returned (.pointer (some ⟨p, 0, none⟩)) ∧ H w' F p n q [] [] ∧ Below w.heap.size w w' ∧ ∀ k, F k → w.heap.size ≤ k
  new_no : ∀ (a b : Int), Hst.Z64 a → Hst.Z64 b → ¬ ((1 ≤ a ∧ a ≤ 3) ∧ 1 ≤ b ∧ b ≤ 8) → ∀ w : World,
    Calls Try.prog 8 #[.int .i64 a, .int .i64 b] w fun e w' => e = .returned (.pointer none) ∧ Below w.heap.size w w'
  put : ∀ {w : World} {F : Nat → Prop} {p n q : Nat} {L G : List Pk}, H w F p n q L G → ∀ x : Pk, Hst.Z64 x.l → ∀ {z : Int}, Hst.putE n q L x = z → ∀ {L' : List Pk}, Hst.putL n q L x = L' →
    Calls Try.prog 13 #[.pointer (some ⟨p, 0, none⟩), .agg #[.int .i64 x.s, .int .i64 x.d, .int .i64 x.l, .int .u32 x.b]] w fun e w' => e = .returned (.int .u16 z) ∧ ∃ F', H w' F' p n q L' G ∧ Grows F w F' w'
  next : ∀ {w : World} {F : Nat → Prop} {p n q : Nat} {L G : List Pk}, H w F p n q L G → ∀ k : Int, Hst.Z64 k → ∀ {x : Pk}, Hst.hdk (Hst.lane L k) = x → ∀ {b : Bool}, (!(Hst.lane L k).isEmpty) = b → ∀ {L' : List Pk}, Hst.drop1 L k = L' →
    Calls Try.prog 10 #[.pointer (some ⟨p, 0, none⟩), .int .i64 k] w fun e w' => e = .returned (.tuple #[.agg #[.int .i64 x.s, .int .i64 x.d, .int .i64 x.l, .int .u32 x.b], .bool b]) ∧ ∃ F', H w' F' p n q L' G ∧ Grows F w F' w'
  waits : ∀ {w : World} {F : Nat → Prop} {p n q : Nat} {L G : List Pk}, H w F p n q L G → ∀ k : Int, Hst.Z64 k → ∀ {c : Nat}, (Hst.lane L k).length = c →
    Calls Try.prog 11 #[.pointer (some ⟨p, 0, none⟩), .int .i64 k] w fun e w' => e = .returned (.int .i64 c) ∧ Below w.heap.size w w'
  eject : ∀ {w : World} {F : Nat → Prop} {p n q : Nat} {L G : List Pk}, H w F p n q L G → ∀ x : Pk, G.length ≤ 100000 →
    Calls Try.prog 17 #[.pointer (some ⟨p, 0, none⟩), .agg #[.int .i64 x.s, .int .i64 x.d, .int .i64 x.l, .int .u32 x.b]] w fun e w' => e = .returned (.tuple #[]) ∧ ∃ F', H w' F' p n q L (G ++ [x]) ∧ Grows F w F' w'
  got : ∀ {w : World} {F : Nat → Prop} {p n q : Nat} {L G : List Pk}, H w F p n q L G → G.length ≤ 100000 →
    Calls Try.prog 12 #[.pointer (some ⟨p, 0, none⟩)] w fun e w' => ∃ v, e = .returned v ∧ PRow w' w.heap.size v G ∧ Below w.heap.size w w'
/-- a host of the call's own, new since w0, none of it in blocks of Z -/
def Own1 (H : HostRel) (Z : Nat → Prop) (w0 w : World) (p n q : Nat) (L G : List Pk) : Prop := ∃ F, H w F p n q L G ∧ (∀ k, F k → w0.heap.size ≤ k ∧ ¬ Z k) ∧ Below w0.heap.size w0 w
section
variable {H : HostRel} {Z : Nat → Prop} {w0 w w' : World} {p n q : Nat} {L G : List Pk}
theorem Own1.on (S : HostSpec H) (m : Own1 H Z w0 w p n q L G) (k : Below w.heap.size w w') : Own1 H Z w0 w' p n q L G := by
  obtain ⟨F, h1, h2, h3⟩ := m
  exact ⟨F, S.sans (E := fun _ => False) h1 (Sans.of_below k) (fun _ _ e => e), h2, later h3 k⟩
theorem Own1.below (m : Own1 H Z w0 w p n q L G) : Below w0.heap.size w0 w := by
  obtain ⟨F, h1, h2, h3⟩ := m
  exact h3
theorem Own1.fit (S : HostSpec H) (m : Own1 H Z w0 w p n q L G) : Hst.Fits n q L := by
  obtain ⟨F, h1, h2, h3⟩ := m
  exact S.fit h1
/-- blocks of Z have turned -/
theorem Own1.side (S : HostSpec H) (m : Own1 H Z w0 w p n q L G) (k : Sans Z w w') (hZ : ∀ j, Z j → w0.heap.size ≤ j) : Own1 H Z w0 w' p n q L G := by
  obtain ⟨F, h1, h2, h3⟩ := m
  exact ⟨F, S.sans h1 k (fun j hj => (h2 j hj).2), h2, h3.trans (k.below h3.size hZ)⟩
theorem Own1.wider (S : HostSpec H) {Z' : Nat → Prop} (m : Own1 H Z w0 w p n q L G) (h : ∀ k, Z' k → Z k ∨ w.heap.size ≤ k) : Own1 H Z' w0 w p n q L G := by
  obtain ⟨F, h1, h2, h3⟩ := m
  exact ⟨F, h1, fun k hk => ⟨(h2 k hk).1, fun e => (h k e).elim (h2 k hk).2 (fun e => by have := S.foot h1 k hk; omega)⟩, h3⟩
theorem Own1.step {F F' : Nat → Prop} {L' G' : List Pk} (h2 : ∀ k, F k → w0.heap.size ≤ k ∧ ¬ Z k) (h3 : Below w0.heap.size w0 w) (hZ : ∀ k, Z k → k < w.heap.size) (h : H w' F' p n q L' G') (hg : Grows F w F' w') : Own1 H Z w0 w' p n q L' G' ∧ Sans (fun k => ¬ Z k) w w' :=
  ⟨⟨F', h, fun k hk => (hg.2 k hk).elim (h2 k) (fun e => ⟨Nat.le_trans h3.size e, fun e2 => by have := hZ k e2; omega⟩), h3.trans (hg.1.below h3.size (fun k hk => (h2 k hk).1))⟩, hg.1.mono (fun k hk => (h2 k hk).2)⟩
theorem o_new (S : HostSpec H) (n q : Nat) (h1 : 1 ≤ n ∧ n ≤ 3) (h2 : 1 ≤ q ∧ q ≤ 8) (hb : Below w0.heap.size w0 w) (hZ : ∀ k, Z k → k < w.heap.size) :
    Calls Try.prog 8 #[.int .i64 n, .int .i64 q] w fun e w' => ∃ p, e = .returned (.pointer (some ⟨p, 0, none⟩)) ∧ Own1 H Z w0 w' p n q [] [] ∧ Below w.heap.size w w' :=
  (S.new_yes n q h1 h2 w).mono fun e w' ⟨p, F, he, hh, hB, hF⟩ => ⟨p, he, ⟨F, hh, fun k hk => ⟨Nat.le_trans hb.size (hF k hk), fun e => by have := hF k hk; have := hZ k e; omega⟩, later hb hB⟩, hB⟩
theorem o_put (S : HostSpec H) (m : Own1 H Z w0 w p n q L G) (hZ : ∀ k, Z k → k < w.heap.size) (x : Pk) (hx : Hst.Z64 x.l) {z : Int} (hz : Hst.putE n q L x = z) {L' : List Pk} (hL : Hst.putL n q L x = L') :
    Calls Try.prog 13 #[.pointer (some ⟨p, 0, none⟩), .agg #[.int .i64 x.s, .int .i64 x.d, .int .i64 x.l, .int .u32 x.b]] w fun e w' => e = .returned (.int .u16 z) ∧ Own1 H Z w0 w' p n q L' G ∧ Sans (fun k => ¬ Z k) w w' := by
  obtain ⟨F, h1, h2, h3⟩ := m
  exact (S.put h1 x hx hz hL).mono fun e w' ⟨he, F', hh, hg⟩ => ⟨he, Own1.step h2 h3 hZ hh hg⟩
theorem o_next (S : HostSpec H) (m : Own1 H Z w0 w p n q L G) (hZ : ∀ k, Z k → k < w.heap.size) (k : Int) (hk : Hst.Z64 k) {x : Pk} (hx : Hst.hdk (Hst.lane L k) = x) {b : Bool} (hb : (!(Hst.lane L k).isEmpty) = b) {L' : List Pk} (hL : Hst.drop1 L k = L') :
    Calls Try.prog 10 #[.pointer (some ⟨p, 0, none⟩), .int .i64 k] w fun e w' => e = .returned (.tuple #[.agg #[.int .i64 x.s, .int .i64 x.d, .int .i64 x.l, .int .u32 x.b], .bool b]) ∧ Own1 H Z w0 w' p n q L' G ∧ Sans (fun k => ¬ Z k) w w' := by
  obtain ⟨F, h1, h2, h3⟩ := m
  exact (S.next h1 k hk hx hb hL).mono fun e w' ⟨he, F', hh, hg⟩ => ⟨he, Own1.step h2 h3 hZ hh hg⟩
theorem o_waits (S : HostSpec H) (m : Own1 H Z w0 w p n q L G) (k : Int) (hk : Hst.Z64 k) {c : Nat} (hc : (Hst.lane L k).length = c) :
    Calls Try.prog 11 #[.pointer (some ⟨p, 0, none⟩), .int .i64 k] w fun e w' => e = .returned (.int .i64 c) ∧ Own1 H Z w0 w' p n q L G ∧ Below w.heap.size w w' := by
  have mm := m
  obtain ⟨F, h1, h2, h3⟩ := m
  exact (S.waits h1 k hk hc).mono fun e w' ⟨he, hb⟩ => ⟨he, mm.on S hb, hb⟩
theorem o_eject (S : HostSpec H) (m : Own1 H Z w0 w p n q L G) (hZ : ∀ k, Z k → k < w.heap.size) (x : Pk) (hG : G.length ≤ 100000) {G' : List Pk} (hG' : G ++ [x] = G') :
    Calls Try.prog 17 #[.pointer (some ⟨p, 0, none⟩), .agg #[.int .i64 x.s, .int .i64 x.d, .int .i64 x.l, .int .u32 x.b]] w fun e w' => e = .returned (.tuple #[]) ∧ Own1 H Z w0 w' p n q L G' ∧ Sans (fun k => ¬ Z k) w w' := by
  obtain ⟨F, h1, h2, h3⟩ := m
  subst hG'
  exact (S.eject h1 x hG).mono fun e w' ⟨he, F', hh, hg⟩ => ⟨he, Own1.step h2 h3 hZ hh hg⟩
theorem o_got (S : HostSpec H) (m : Own1 H Z w0 w p n q L G) (hG : G.length ≤ 100000) {m' : Nat} (hm : G.length = m') :
    Calls Try.prog 12 #[.pointer (some ⟨p, 0, none⟩)] w fun e w' => ∃ a c, e = .returned (.slice a m' c) ∧ PRow w' w.heap.size (.slice a m' c) G ∧ Own1 H (fun k => Z k ∨ w.heap.size ≤ k) w0 w' p n q L G ∧ Below w.heap.size w w' := by
  subst hm
  have mm := m
  obtain ⟨F, h1, h2, h3⟩ := m
  exact (S.got h1 hG).mono fun e w' ⟨v, he, hr, hb⟩ => by
    obtain ⟨a, c, rfl⟩ := hr.shape
    exact ⟨a, c, he, hr, (mm.wider S (fun k hk => hk)).on S hb, hb⟩
end
theorem z64_small {z : Int} (h : -1000 ≤ z ∧ z ≤ 1000) : Hst.Z64 z := by unfold Hst.Z64; omega
theorem hnone {w : World} : ∀ k : Nat, (fun _ : Nat => False) k → k < w.heap.size := fun _ e => e.elim
end Go.Proofs.Ytfldhjeeoaplfaa
