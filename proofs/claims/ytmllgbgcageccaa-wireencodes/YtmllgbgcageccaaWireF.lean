/-
  bytes.Equal of any two slices of bytes, and wire.Decode of bytes that are none or too many or too few, come to what they should. Conditions: none but that the slices lead to bytes.
-/
import Derived.Test.YtmllgbgcageccaaWireE
namespace Go.Proofs.Ytmllgbgcageccaa
open Go.ChangeShapes Go.WideShapes Go.ChangeAt Go.RowKit
set_option linter.unusedVariables false

theorem ofNat_inj {a b : Nat} (ha : a < 256) (hb : b < 256) (h : UInt8.ofNat a = UInt8.ofNat b) : a = b := by
  have := congrArg UInt8.toNat h
  simp at this
  omega
theorem map_inj : ∀ {l m : List Nat}, Crc.Oct l → Crc.Oct m → l.map UInt8.ofNat = m.map UInt8.ofNat → l = m := by
  intro l
  induction l with
  | nil => intro m _ _ h; cases m with
    | nil => rfl
    | cons => cases h
  | cons c l ih =>
    intro m hl hm h
    cases m with
    | nil => cases h
    | cons d m =>
      simp only [List.map_cons, List.cons.injEq] at h
      rw [ofNat_inj hl.head hm.head h.1, ih hl.tail hm.tail h.2]
theorem strOf_list (l : List Nat) : (strOf l).toList = l.map UInt8.ofNat := by unfold strOf; simp
theorem str_beq {l m : List Nat} (hl : Crc.Oct l) (hm : Crc.Oct m) : ((strOf l).toList == (strOf m).toList) = decide (l = m) := by
  rw [strOf_list, strOf_list]
  by_cases h : l = m
  · subst h; simp
  · have : ¬ l.map UInt8.ofNat = m.map UInt8.ofNat := fun e => h (map_inj hl hm e)
    simp only [h, decide_false, beq_eq_false_iff_ne, ne_eq, this, not_false_eq_true]
set_option maxHeartbeats 400000 in
theorem equal_any (a1 a2 : Option Addr) (n1 c1 n2 c2 : Nat) (l1 l2 : List Nat) (w : World) (h1 : Octs w a1 n1 l1) (h2 : Octs w a2 n2 l2) :
    Calls Try.prog 25 #[.slice a1 n1 c1, .slice a2 n2 c2] w fun e w' => e = .returned (.bool (decide (l1 = l2))) ∧ w' = w := by
  have k1 : (convert 27 9 (.slice a1 n1 c1)).run Try.prog w = .ok (.string (strOf l1)) w := str_run h1
  have k2 : (convert 27 9 (.slice a2 n2 c2)).run Try.prog w = .ok (.string (strOf l2)) w := str_run h2
  have HE : Hid (((strOf l1).toList == (strOf l2).toList) = decide (l1 = l2)) := str_beq h1.2.2.1 h2.2.2.1
  clear h1 h2
  go_enter Try.func25, Try.ntmps25
  go_wp2_with fail
  go_ret
  exact ⟨ret_bool HE.out, rfl⟩
theorem equal_is (a1 a2 : Option Addr) (n1 c1 n2 c2 : Nat) (l1 l2 : List Nat) (w : World) (h1 : Octs w a1 n1 l1) (h2 : Octs w a2 n2 l2) (b : Bool) (hb : decide (l1 = l2) = b) :
    Calls Try.prog 25 #[.slice a1 n1 c1, .slice a2 n2 c2] w fun e w' => e = .returned (.bool b) ∧ w' = w := by
  subst hb; exact equal_any a1 a2 n1 c1 n2 c2 l1 l2 w h1 h2
/-- the answer of Decode -/
def decVal (k : IntKind) (l : List Nat) : Value := match Wire.dec l with
  | some f => .tuple #[fr f, .int k 0]
  | none => .tuple #[fr Wire.zero, .int k 30]
theorem bad_val {k : IntKind} {l : List Nat} (h : Wire.dec l = none) : decVal k l = .tuple #[.agg #[.int .u8 0, .int .u8 0, .int .u16 0, .int .u8 0, .int .u8 0, .int .u32 0], .int k 30] := by
  unfold decVal; rw [h]; rfl
theorem good_val {k : IntKind} {l : List Nat} {f : Wire.Fr} (h : Wire.dec l = some f) : decVal k l = .tuple #[fr f, .int k 0] := by
  unfold decVal; rw [h]
set_option maxHeartbeats 1000000 in
theorem dec_empty (a : Option Addr) (cap : Nat) (w : World) :
    Calls Try.prog 19 #[.slice a (0 : Nat) cap] w fun e w' => e = .returned (decVal .u16 []) ∧ Below w.heap.size w w' := by
  rw [bad_val (k := .u16) Wire.dec_nil]
  go_enter Try.func19, Try.ntmps19
  go_wp2_with fail
  exact bodyPost_ret (v := .tuple #[.agg #[.int .u8 0, .int .u8 0, .int .u16 0, .int .u8 0, .int .u8 0, .int .u32 0], .int .u16 30]) (by simp [results, Try.results19, go_sem]) rfl ⟨rfl, (by repeat' (first | (with_reducible exact Below.refl _ _) | (with_reducible refine Below.setCell ?_ ?_ _) | (with_reducible refine Below.drewN' ?_ _) | (with_reducible refine Below.drew ?_) | (with_reducible refine Below.alloc ?_ ?_ _) | (simp; done)))⟩
set_option maxHeartbeats 1000000 in
theorem dec_size (b off len cap : Nat) (l : List Nat) (w : World) (ho : Octs w (some ⟨b, off, none⟩) len l) (hp : 0 < len) (hm : len ≤ 9223372036854775807) (hn : Wire.fits l = false) :
    Calls Try.prog 19 #[.slice (some ⟨b, off, none⟩) len cap] w fun e w' => e = .returned (decVal .u16 l) ∧ Below w.heap.size w w' := by
  have hlt : b < w.heap.size := by
    rcases ho.2.2.2 with h | ⟨b', off', e, h, _⟩
    · omega
    · cases e; exact h
  have f0 : w.cell? ⟨b, off, none⟩ = some (.int .u8 (l.getD 0 0 : Nat)) := by
    rcases ho.2.2.2 with h | ⟨b', off', e, h, hc⟩
    · omega
    · cases e; exact hc 0 (by omega)
  have g0 : l.getD 0 0 < 256 := Oct_getD ho.2.2.1 0
  have hs : ¬ (len : Int) = ((Wire.sizeOf (l.getD 0 0) : Nat) : Int) := by
    unfold Wire.fits at hn
    have := of_decide_eq_false hn
    have hl := ho.1
    omega
  rw [bad_val (k := .u16) (l := l) (by unfold Wire.dec; rw [hn]; rfl)]
  obtain ⟨c0, hc0⟩ : ∃ c, c = l.getD 0 0 := ⟨_, rfl⟩
  rw [← hc0] at f0 g0 hs
  clear hc0 ho hn
  obtain ⟨sz, hsz⟩ : ∃ s, s = Wire.sizeOf c0 := ⟨_, rfl⟩
  rw [← hsz] at hs
  have HZ : Hid (sz = Wire.sizeOf c0) := hsz
  clear hsz
  have hz : ((len : Int) == 0) = false := by simp; omega
  have hb : ((len : Int) != (sz : Int)) = true := by simp; omega
  have j0 : (0 : Int) < len := by omega
  go_enter Try.func19, Try.ntmps19
  go_wp2_with (go_at_call 23; refine (size_is c0 g0 sz (by rw [HZ.out]) _).mono ?_; rintro e w' ⟨rfl, rfl⟩)
  exact bodyPost_ret (v := .tuple #[.agg #[.int .u8 0, .int .u8 0, .int .u16 0, .int .u8 0, .int .u8 0, .int .u32 0], .int .u16 30]) (by simp [results, Try.results19, go_sem]) rfl ⟨rfl, (by repeat' (first | (with_reducible exact Below.refl _ _) | (with_reducible refine Below.setCell ?_ ?_ _) | (with_reducible refine Below.drewN' ?_ _) | (with_reducible refine Below.drew ?_) | (with_reducible refine Below.alloc ?_ ?_ _) | (simp; done)))⟩
end Go.Proofs.Ytmllgbgcageccaa
