/-
  The program's host and the document's side by side: what each call comes to, and that both answer alike. Conditions: that package host comes to what HostSpec says.
-/
import Derived.Test.YtfldhjeeoaplfaaHostOps
import Derived.Test.YtfldhjeeoaplfaaRefHostD
import Derived.Test.YtfldhjeeoaplfaaPktSame
namespace Go.Proofs.Ytfldhjeeoaplfaa
open Go.ChangeShapes Go.WideShapes Go.ChangeAt Go.RowKit
set_option linter.unusedVariables false

/-- both are the call's own, apart from each other and from blocks of Z -/
def Duo (H : HostRel) (Z : Nat → Prop) (w0 w : World) (p r n q : Nat) (L G L2 G2 : List Pk) : Prop :=
  ∃ F K, H w F p n q L G ∧ HAt w K r n q L2 G2 ∧ (∀ k, F k → w0.heap.size ≤ k ∧ ¬ Z k) ∧ (∀ k, K k → w0.heap.size ≤ k ∧ ¬ Z k) ∧ (∀ k, F k → ¬ K k) ∧ Below w0.heap.size w0 w
section
variable {H : HostRel} {Z : Nat → Prop} {w0 w w' : World} {p r n q : Nat} {L G L2 G2 : List Pk}
theorem Duo.on (S : HostSpec H) (m : Duo H Z w0 w p r n q L G L2 G2) (k : Below w.heap.size w w') : Duo H Z w0 w' p r n q L G L2 G2 := by
  obtain ⟨F, K, h1, h2, h3, h4, h5, h6⟩ := m
  exact ⟨F, K, S.sans (E := fun _ => False) h1 (Sans.of_below k) (fun _ _ e => e), h2.below k, h3, h4, h5, later h6 k⟩
theorem Duo.below (m : Duo H Z w0 w p r n q L G L2 G2) : Below w0.heap.size w0 w := by
  obtain ⟨F, K, h1, h2, h3, h4, h5, h6⟩ := m
  exact h6
theorem Duo.fit (S : HostSpec H) (m : Duo H Z w0 w p r n q L G L2 G2) : Hst.Fits n q L := by
  obtain ⟨F, K, h1, h2⟩ := m
  exact S.fit h1
theorem Duo.wider (S : HostSpec H) {Z' : Nat → Prop} (m : Duo H Z w0 w p r n q L G L2 G2) (h : ∀ k, Z' k → Z k ∨ w.heap.size ≤ k) : Duo H Z' w0 w p r n q L G L2 G2 := by
  obtain ⟨F, K, h1, h2, h3, h4, h5, h6⟩ := m
  exact ⟨F, K, h1, h2, fun k hk => ⟨(h3 k hk).1, fun e => (h k e).elim (h3 k hk).2 (fun e => by have := S.foot h1 k hk; omega)⟩, fun k hk => ⟨(h4 k hk).1, fun e => (h k e).elim (h4 k hk).2 (fun e => by have := h2.foot k hk; omega)⟩, h5, h6⟩
/-- the program's have turned -/
theorem Duo.first {F F' K : Nat → Prop} {L' G' : List Pk} (S : HostSpec H) (h2 : HAt w K r n q L2 G2) (h3 : ∀ k, F k → w0.heap.size ≤ k ∧ ¬ Z k) (h4 : ∀ k, K k → w0.heap.size ≤ k ∧ ¬ Z k) (h5 : ∀ k, F k → ¬ K k) (h6 : Below w0.heap.size w0 w) (hZ : ∀ k, Z k → k < w.heap.size)
    (hR : H w' F' p n q L' G') (hg : Grows F w F' w') : Duo H Z w0 w' p r n q L' G' L2 G2 ∧ Sans (fun k => ¬ Z k) w w' :=
  ⟨⟨F', K, hR, h2.sans hg.1 (fun k hk e => h5 k e hk), fun k hk => (hg.2 k hk).elim (h3 k) (fun e => ⟨Nat.le_trans h6.size e, fun e2 => by have := hZ k e2; omega⟩), h4, fun k hk e => (hg.2 k hk).elim (fun e2 => h5 k e2 e) (fun e2 => by have := h2.foot k e; omega), h6.trans (hg.1.below h6.size (fun k hk => (h3 k hk).1))⟩, hg.1.mono (fun k hk => (h3 k hk).2)⟩
/-- the document's have turned -/
theorem Duo.second {F K K' : Nat → Prop} {L' G' : List Pk} (S : HostSpec H) (h1 : H w F p n q L G) (h3 : ∀ k, F k → w0.heap.size ≤ k ∧ ¬ Z k) (h4 : ∀ k, K k → w0.heap.size ≤ k ∧ ¬ Z k) (h5 : ∀ k, F k → ¬ K k) (h6 : Below w0.heap.size w0 w) (hZ : ∀ k, Z k → k < w.heap.size)
    (hR : HAt w' K' r n q L' G') (hg : Grows K w K' w') : Duo H Z w0 w' p r n q L G L' G' ∧ Sans (fun k => ¬ Z k) w w' :=
  ⟨⟨F, K', S.sans h1 hg.1 (fun k hk e => h5 k hk e), hR, h3, fun k hk => (hg.2 k hk).elim (h4 k) (fun e => ⟨Nat.le_trans h6.size e, fun e2 => by have := hZ k e2; omega⟩), fun k hk e => (hg.2 k e).elim (fun e2 => h5 k hk e2) (fun e2 => by have := S.foot h1 k hk; omega), h6.trans (hg.1.below h6.size (fun k hk => (h4 k hk).1))⟩, hg.1.mono (fun k hk => (h4 k hk).2)⟩
theorem d_new (S : HostSpec H) (n q : Nat) (h1 : 1 ≤ n ∧ n ≤ 3) (h2 : 1 ≤ q ∧ q ≤ 8) (m : Own1 H Z w0 w p n q L G) (hZ : ∀ k, Z k → k < w.heap.size) :
    Calls Try.prog 14 #[.int .i64 n, .int .i64 q] w fun e w' => ∃ r, e = .returned (.pointer (some ⟨r, 0, none⟩)) ∧ Duo H Z w0 w' p r n q L G [] [] := by
  obtain ⟨F, g1, g2, g3⟩ := m
  exact (rhNew_yes n q h1 h2 w).mono fun e w' ⟨r, K, he, hh, hB, hF⟩ => ⟨r, he, F, K, S.sans (E := fun _ => False) g1 (Sans.of_below hB) (fun _ _ e => e), hh, g2, fun k hk => ⟨Nat.le_trans g3.size (hF k hk), fun e => by have := hF k hk; have := hZ k e; omega⟩, fun k hk e => by have := S.foot g1 k hk; have := hF k e; omega, later g3 hB⟩
theorem d_put (S : HostSpec H) (m : Duo H Z w0 w p r n q L G L2 G2) (hZ : ∀ k, Z k → k < w.heap.size) (x : Pk) (hx : Hst.Z64 x.l) {z : Int} (hz : Hst.putE n q L x = z) {L' : List Pk} (hL : Hst.putL n q L x = L') :
    Calls Try.prog 13 #[.pointer (some ⟨p, 0, none⟩), .agg #[.int .i64 x.s, .int .i64 x.d, .int .i64 x.l, .int .u32 x.b]] w fun e w' => e = .returned (.int .u16 z) ∧ Duo H Z w0 w' p r n q L' G L2 G2 ∧ Sans (fun k => ¬ Z k) w w' := by
  obtain ⟨F, K, h1, h2, h3, h4, h5, h6⟩ := m
  exact (S.put h1 x hx hz hL).mono fun e w' ⟨he, F', hR, hg⟩ => ⟨he, Duo.first S h2 h3 h4 h5 h6 hZ hR hg⟩
theorem d_rput (S : HostSpec H) (m : Duo H Z w0 w p r n q L G L2 G2) (hZ : ∀ k, Z k → k < w.heap.size) (x : Pk) {z : Int} (hz : Hst.putE n q L2 x = z) {L' : List Pk} (hL : Hst.putL n q L2 x = L') :
    Calls Try.prog 19 #[.pointer (some ⟨r, 0, none⟩), .agg #[.int .i64 x.s, .int .i64 x.d, .int .i64 x.l, .int .u32 x.b]] w fun e w' => e = .returned (.int .i64 z) ∧ Duo H Z w0 w' p r n q L G L' G2 ∧ Sans (fun k => ¬ Z k) w w' := by
  obtain ⟨F, K, h1, h2, h3, h4, h5, h6⟩ := m
  exact (rhPut_any h2 x hz hL).mono fun e w' ⟨he, K', hR, hg⟩ => ⟨he, Duo.second S h1 h3 h4 h5 h6 hZ hR hg⟩
theorem d_next (S : HostSpec H) (m : Duo H Z w0 w p r n q L G L2 G2) (hZ : ∀ k, Z k → k < w.heap.size) (k : Int) (hk : Hst.Z64 k) {x : Pk} (hx : Hst.hdk (Hst.lane L k) = x) {b : Bool} (hb : (!(Hst.lane L k).isEmpty) = b) {L' : List Pk} (hL : Hst.drop1 L k = L') :
    Calls Try.prog 10 #[.pointer (some ⟨p, 0, none⟩), .int .i64 k] w fun e w' => e = .returned (.tuple #[.agg #[.int .i64 x.s, .int .i64 x.d, .int .i64 x.l, .int .u32 x.b], .bool b]) ∧ Duo H Z w0 w' p r n q L' G L2 G2 ∧ Sans (fun k => ¬ Z k) w w' := by
  obtain ⟨F, K, h1, h2, h3, h4, h5, h6⟩ := m
  exact (S.next h1 k hk hx hb hL).mono fun e w' ⟨he, F', hR, hg⟩ => ⟨he, Duo.first S h2 h3 h4 h5 h6 hZ hR hg⟩
theorem d_rnext (S : HostSpec H) (m : Duo H Z w0 w p r n q L G L2 G2) (hZ : ∀ k, Z k → k < w.heap.size) (k : Int) {x : Pk} (hx : Hst.hdk (Hst.lane L2 k) = x) {b : Bool} (hb : (!(Hst.lane L2 k).isEmpty) = b) {L' : List Pk} (hL : Hst.drop1 L2 k = L') :
    Calls Try.prog 16 #[.pointer (some ⟨r, 0, none⟩), .int .i64 k] w fun e w' => e = .returned (.tuple #[.agg #[.int .i64 x.s, .int .i64 x.d, .int .i64 x.l, .int .u32 x.b], .bool b]) ∧ Duo H Z w0 w' p r n q L G L' G2 ∧ Sans (fun k => ¬ Z k) w w' := by
  obtain ⟨F, K, h1, h2, h3, h4, h5, h6⟩ := m
  exact (rhNext_any h2 k hx hb hL).mono fun e w' ⟨he, K', hR, hg⟩ => ⟨he, Duo.second S h1 h3 h4 h5 h6 hZ hR hg⟩
theorem d_eject (S : HostSpec H) (m : Duo H Z w0 w p r n q L G L2 G2) (hZ : ∀ k, Z k → k < w.heap.size) (x : Pk) (hG : G.length ≤ 100000) :
    Calls Try.prog 17 #[.pointer (some ⟨p, 0, none⟩), .agg #[.int .i64 x.s, .int .i64 x.d, .int .i64 x.l, .int .u32 x.b]] w fun e w' => e = .returned (.tuple #[]) ∧ Duo H Z w0 w' p r n q L (G ++ [x]) L2 G2 ∧ Sans (fun k => ¬ Z k) w w' := by
  obtain ⟨F, K, h1, h2, h3, h4, h5, h6⟩ := m
  exact (S.eject h1 x hG).mono fun e w' ⟨he, F', hR, hg⟩ => ⟨he, Duo.first S h2 h3 h4 h5 h6 hZ hR hg⟩
theorem d_reject (S : HostSpec H) (m : Duo H Z w0 w p r n q L G L2 G2) (hZ : ∀ k, Z k → k < w.heap.size) (x : Pk) (hG : G2.length ≤ 100000) :
    Calls Try.prog 18 #[.pointer (some ⟨r, 0, none⟩), .agg #[.int .i64 x.s, .int .i64 x.d, .int .i64 x.l, .int .u32 x.b]] w fun e w' => e = .returned (.tuple #[]) ∧ Duo H Z w0 w' p r n q L G L2 (G2 ++ [x]) ∧ Sans (fun k => ¬ Z k) w w' := by
  obtain ⟨F, K, h1, h2, h3, h4, h5, h6⟩ := m
  exact (rhEject_any h2 x hG).mono fun e w' ⟨he, K', hR, hg⟩ => ⟨he, Duo.second S h1 h3 h4 h5 h6 hZ hR hg⟩
theorem d_waits (S : HostSpec H) (m : Duo H Z w0 w p r n q L G L2 G2) (k : Int) (hk : Hst.Z64 k) {c : Nat} (hc : (Hst.lane L k).length = c) :
    Calls Try.prog 11 #[.pointer (some ⟨p, 0, none⟩), .int .i64 k] w fun e w' => e = .returned (.int .i64 c) ∧ Duo H Z w0 w' p r n q L G L2 G2 := by
  have mm := m
  obtain ⟨F, K, h1, h2, h3, h4, h5, h6⟩ := m
  exact (S.waits h1 k hk hc).mono fun e w' ⟨he, hb⟩ => ⟨he, mm.on S hb⟩
theorem d_rwaits (m : Duo H Z w0 w p r n q L G L2 G2) (k : Int) {c : Nat} (hc : (Hst.lane L2 k).length = c) :
    Calls Try.prog 21 #[.pointer (some ⟨r, 0, none⟩), .int .i64 k] w fun e w' => e = .returned (.int .i64 c) ∧ w' = w := by
  obtain ⟨F, K, h1, h2, h3, h4, h5, h6⟩ := m
  exact rhWaits_any h2 k hc
theorem d_got (S : HostSpec H) (m : Duo H Z w0 w p r n q L G L2 G2) (hG : G.length ≤ 100000) {m' : Nat} (hm : G.length = m') :
    Calls Try.prog 12 #[.pointer (some ⟨p, 0, none⟩)] w fun e w' => ∃ a c, e = .returned (.slice a m' c) ∧ Pks w' a m' G ∧ Duo H Z w0 w' p r n q L G L2 G2 ∧ Below w.heap.size w w' := by
  subst hm
  have mm := m
  obtain ⟨F, K, h1, h2, h3, h4, h5, h6⟩ := m
  exact (S.got h1 hG).mono fun e w' ⟨v, he, hr, hb⟩ => by
    obtain ⟨a, c, rfl⟩ := hr.shape
    exact ⟨a, c, he, hr.pks rfl hG, mm.on S hb, hb⟩
/-- what came, as the document's host holds it -/
theorem Duo.came (m : Duo H Z w0 w p r n q L G L2 G2) (hG : G2.length ≤ 100000) {m' : Nat} (hm : G2.length = m') : ∃ b c, w.cell? ⟨r, 3, none⟩ = some (.slice b m' c) ∧ Pks w b m' G2 := by
  subst hm
  obtain ⟨F, K, h1, ⟨a, cap, b, capb, h2⟩, _⟩ := m
  exact ⟨b, capb, h2.c3, PRow.pks (base := 0) (c := capb) h2.rowG rfl hG⟩
end
end Go.Proofs.Ytfldhjeeoaplfaa
