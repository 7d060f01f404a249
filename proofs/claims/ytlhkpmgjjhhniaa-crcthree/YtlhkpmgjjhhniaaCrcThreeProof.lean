/-
  For every three slices of bytes, the law CrcThree of package shunterlaw02 returns true and leaves the slices as they were. Conditions: none.
-/
import Derived.Test.YtlhkpmgjjhhniaaCrcMath
import Derived.Test.YtlhkpmgjjhhniaaCrcCalls
import Derived.Test.YtlhkpmgjjhhniaaCrcKnown
import Derived.Test.YtlhkpmgjjhhniaaCrcOwn
import Derived.Test.YtlhkpmgjjhhniaaCrcThreeParts
import Derived.Test.YtlhkpmgjjhhniaaRows
import Derived.WalkKit
import Derived.ProofKit
import Derived.OpenShut
import Derived.ShutString
import Derived.ChangeOld
import Derived.Below
namespace Go.Proofs.Ytlhkpmgjjhhniaa.crcThree
open Go.ChangeShapes Go.WideShapes Go.ChangeAt Go.RowKit
open Go.ChangeMaps (open_string shut_string)
set_option linter.unusedVariables false

theorem own : ownKnob Try.prog.godebug = none := by kernel_rfl
theorem laidOut : laidOutB Try.prog = true := by kernel_rfl

/-- WHAT THE WALK IS TOLD OF A SLICE OF INTEGERS THAT CAME IN: it is nil; or it leads to a row of 'cap' cells, the numbers 'zs' (the first 'len' are its elements, the rest its spare room), each fitting its kind. -/
def IsRow (k : IntKind) (w : World) (a : Option Addr) (len cap : Nat) (zs : List Int) : Prop :=
  (a = none ∧ len = 0 ∧ cap = 0 ∧ zs = []) ∨
  ∃ x, a = some x ∧ len ≤ cap ∧ cap ≤ maxLen ∧ zs.length = cap ∧ (∀ i, i < zs.length → w.cell? (x.add i) = some (.int k (zs.getD i 0))) ∧ ∀ n ∈ zs, (Lit.int k n).wf = true

set_option maxHeartbeats 2000000 in
theorem leaf1 (a0 : Option Addr) (len0 cap0 : Nat) (a1 : Option Addr) (len1 cap1 : Nat) (a2 : Option Addr) (len2 cap2 : Nat) (la lb lc : List Nat) (w : World) (HA : Hid (Octs w a0 len0 la)) (HB : Hid (Octs w a1 len1 lb)) (HC : Hid (Octs w a2 len2 lc))
    (ca0 : len0 ≤ cap0) (cb0 : cap0 ≤ 9223372036854775807) (ca1 : len1 ≤ cap1) (cb1 : cap1 ≤ 9223372036854775807) (ca2 : len2 ≤ cap2) (cb2 : cap2 ≤ 9223372036854775807) (t1 : len2 < len1) (t2 : len2 < len0) :
    Calls Try.prog 10 #[.slice a0 len0 cap0, .slice a1 len1 cap1, .slice a2 len2 cap2] w fun e w' => e = .returned (.bool true) ∧ Below w.heap.size w w' := by
  by_cases hb : 1000 < len2
  · go_enter Try.func10, Try.ntmps10
    go_wp2_with (go_at_call 11; refine (known_any _).mono ?_; rintro e w' ⟨rfl, hbel⟩)
    go_ret
    exact ⟨rfl, hbel⟩
  · have HA' : Hid (Octs w a0 len2 (la.take len2)) := HA.out.take (by omega)
    have HB' : Hid (Octs w a1 len2 (lb.take len2)) := HB.out.take (by omega)
    have HC' : Hid (Octs w a2 len2 (lc.take len2)) := HC.out.take (by omega)
    clear HA HB HC
    obtain ⟨ma, hma⟩ : ∃ m, m = la.take len2 := ⟨_, rfl⟩
    obtain ⟨mb, hmb⟩ : ∃ m, m = lb.take len2 := ⟨_, rfl⟩
    obtain ⟨mc, hmc⟩ : ∃ m, m = lc.take len2 := ⟨_, rfl⟩
    rw [← hma] at HA'
    rw [← hmb] at HB'
    rw [← hmc] at HC'
    clear hma hmb hmc la lb lc
    go_enter Try.func10, Try.ntmps10
    go_wp2_with fail
    refine (known_any _).mono ?_
    rintro e u1 ⟨rfl, h1⟩
    go_wp2_with fail
    go_loopw [8, 9] (fun v i wr => ∃ (k : Nat) (ad : Option Addr) (cd : Nat), k ≤ len2 ∧ i = .int .i64 k ∧ v = .slice ad k cd ∧ Own wr u1.heap.size ad k cd (xors ma mb mc k) ∧ Below u1.heap.size u1 wr) (fun _ i _ => len2 - (intOf i).toNat)
    case atStart => exact ⟨0, none, 0, Nat.zero_le _, rfl, rfl, Own.empty _ _, Below.refl _ _⟩
    case round =>
      obtain ⟨k, ad, cd, hk, rfl, rfl, hown, hbr⟩ := hrel
      have hoa := (HA'.out.below h1).below hbr
      have hob := (HB'.out.below h1).below hbr
      have hoc := (HC'.out.below h1).below hbr
      by_cases hkn : k < len2
      · obtain ⟨ba, fa, rfl, xa⟩ := hoa.at (by omega)
        obtain ⟨bb, fb, rfl, xb⟩ := hob.at (by omega)
        obtain ⟨bc, fc, rfl, xc⟩ := hoc.at (by omega)
        have ya := xa k hkn
        have yb := xb k hkn
        have yc := xc k hkn
        obtain ⟨A, hA⟩ : ∃ A, A = ma.getD k 0 := ⟨_, rfl⟩
        obtain ⟨B, hB⟩ : ∃ B, B = mb.getD k 0 := ⟨_, rfl⟩
        obtain ⟨C, hC⟩ : ∃ C, C = mc.getD k 0 := ⟨_, rfl⟩
        have A8 : A < 256 := by rw [hA]; exact Oct_getD hoa.2.2.1 k
        have B8 : B < 256 := by rw [hB]; exact Oct_getD hob.2.2.1 k
        have C8 : C < 256 := by rw [hC]; exact Oct_getD hoc.2.2.1 k
        rw [← hA] at ya
        rw [← hB] at yb
        rw [← hC] at yc
        have HX : Hid (xors ma mb mc k ++ [A ^^^ B ^^^ C] = xors ma mb mc (k + 1)) := by show _ = _; rw [hA, hB, hC]; exact xors_succ ma mb mc k
        have HO : Hid (Own wr u1.heap.size ad k cd (xors ma mb mc k)) := hown
        have HR : Hid (Below u1.heap.size u1 wr) := hbr
        clear hown hbr hoa hob hoc xa xb xc hA hB hC HA' HB' HC' h1
        have i0 : k < len0 := by omega
        have i1 : k < len1 := by omega
        have i2 : k < len2 := by omega
        go_wp2
        go_region_law (refine step_append_bytes rfl (.tmp 30) (.tmp 45) rfl u1.heap.size ad k cd (xors ma mb mc k) (by simp [Act.eval]) (HO.out.below ((Below.refl _ _).drew.alloc (Nat.le_refl _) _)) ⟨wr.heap.size, 0, none⟩ 1 1 [A ^^^ B ^^^ C] (by simp [Act.eval]) (one_is _ _ _ (xor3 A8 B8 C8) (Crc.xor_lt8 (Crc.xor_lt8 A8 B8) C8)) (by omega) (by have := HR.out.size; simp; omega) (k + 1) rfl _ HX.out ?_; intro ad' cd' w2 hown2 hb2)
        all_goals
          have hb3 : Below u1.heap.size u1 w2 := ((HR.out.alloc HR.out.size _).drew).trans hb2
          clear ya yb yc hb2
          go_wp2
          go_roundw
          case rel => exact ⟨k + 1, ad', cd', by omega, by go_num, rfl, hown2, hb3⟩
          case measure => simp [intOf]; omega
      · have hkk : k = len2 := by omega
        rw [hkk] at hown ⊢
        clear hkk hkn hk k
        have HF : Four w wr a0 a1 a2 ad len2 ma mb mc (xors ma mb mc len2) := ⟨hoa, hob, hoc, hown.octs, later h1 hbr⟩
        have HFd : Four w wr.drew a0 a1 a2 ad len2 ma mb mc (xors ma mb mc len2) := HF.below ((Below.refl _ _).drew)
        have HT : Hid (Crc.crc ma ^^^ Crc.crc mb ^^^ Crc.crc mc = Crc.crc (xors ma mb mc len2)) := Crc.crc_three hoa.1 hob.1 hoc.1 hoa.2.2.1 hob.2.2.1 hoc.2.2.1
        have A6 : Crc.crc ma < 65536 := Crc.crc_lt hoa.2.2.1
        have B6 : Crc.crc mb < 65536 := Crc.crc_lt hob.2.2.1
        have C6 : Crc.crc mc < 65536 := Crc.crc_lt hoc.2.2.1
        clear hoa hob hoc hown hbr HF HA' HB' HC' h1
        have j0 : len2 ≤ cap0 := by omega
        have j1 : len2 ≤ cap1 := by omega
        have j2 : len2 ≤ cap2 := by omega
        go_wp2
        go_region_with (first | (go_at_call_of 12 (Value.slice a0 len2 cap0); refine (four_a cap0 (by assumption)).mono ?_; rintro e w' ⟨rfl, hF'⟩) | (go_at_call_of 12 (Value.slice a1 len2 cap1); refine (four_b cap1 (by assumption)).mono ?_; rintro e w' ⟨rfl, hF'⟩) | (go_at_call_of 12 (Value.slice a2 len2 cap2); refine (four_c cap2 (by assumption)).mono ?_; rintro e w' ⟨rfl, hF'⟩) | (go_at_call_of 12 (Value.slice ad len2 cd); refine (four_d cd (by assumption)).mono ?_; rintro e w' ⟨rfl, hF'⟩))
        all_goals
          go_wp2
          go_ret
          exact ⟨ret_bool (by rw [xor3w A6 B6 C6, HT.out]; simp), hF'.2.2.2.2⟩
set_option maxHeartbeats 2000000 in
theorem leaf2 (a0 : Option Addr) (len0 cap0 : Nat) (a1 : Option Addr) (len1 cap1 : Nat) (a2 : Option Addr) (len2 cap2 : Nat) (la lb lc : List Nat) (w : World) (HA : Hid (Octs w a0 len0 la)) (HB : Hid (Octs w a1 len1 lb)) (HC : Hid (Octs w a2 len2 lc))
    (ca0 : len0 ≤ cap0) (cb0 : cap0 ≤ 9223372036854775807) (ca1 : len1 ≤ cap1) (cb1 : cap1 ≤ 9223372036854775807) (ca2 : len2 ≤ cap2) (cb2 : cap2 ≤ 9223372036854775807) (t1 : len2 < len1) (t2 : ¬ len2 < len0) :
    Calls Try.prog 10 #[.slice a0 len0 cap0, .slice a1 len1 cap1, .slice a2 len2 cap2] w fun e w' => e = .returned (.bool true) ∧ Below w.heap.size w w' := by
  by_cases hb : 1000 < len0
  · go_enter Try.func10, Try.ntmps10
    go_wp2_with (go_at_call 11; refine (known_any _).mono ?_; rintro e w' ⟨rfl, hbel⟩)
    go_ret
    exact ⟨rfl, hbel⟩
  · have HA' : Hid (Octs w a0 len0 (la.take len0)) := HA.out.take (by omega)
    have HB' : Hid (Octs w a1 len0 (lb.take len0)) := HB.out.take (by omega)
    have HC' : Hid (Octs w a2 len0 (lc.take len0)) := HC.out.take (by omega)
    clear HA HB HC
    obtain ⟨ma, hma⟩ : ∃ m, m = la.take len0 := ⟨_, rfl⟩
    obtain ⟨mb, hmb⟩ : ∃ m, m = lb.take len0 := ⟨_, rfl⟩
    obtain ⟨mc, hmc⟩ : ∃ m, m = lc.take len0 := ⟨_, rfl⟩
    rw [← hma] at HA'
    rw [← hmb] at HB'
    rw [← hmc] at HC'
    clear hma hmb hmc la lb lc
    go_enter Try.func10, Try.ntmps10
    go_wp2_with fail
    refine (known_any _).mono ?_
    rintro e u1 ⟨rfl, h1⟩
    go_wp2_with fail
    go_loopw [8, 9] (fun v i wr => ∃ (k : Nat) (ad : Option Addr) (cd : Nat), k ≤ len0 ∧ i = .int .i64 k ∧ v = .slice ad k cd ∧ Own wr u1.heap.size ad k cd (xors ma mb mc k) ∧ Below u1.heap.size u1 wr) (fun _ i _ => len0 - (intOf i).toNat)
    case atStart => exact ⟨0, none, 0, Nat.zero_le _, rfl, rfl, Own.empty _ _, Below.refl _ _⟩
    case round =>
      obtain ⟨k, ad, cd, hk, rfl, rfl, hown, hbr⟩ := hrel
      have hoa := (HA'.out.below h1).below hbr
      have hob := (HB'.out.below h1).below hbr
      have hoc := (HC'.out.below h1).below hbr
      by_cases hkn : k < len0
      · obtain ⟨ba, fa, rfl, xa⟩ := hoa.at (by omega)
        obtain ⟨bb, fb, rfl, xb⟩ := hob.at (by omega)
        obtain ⟨bc, fc, rfl, xc⟩ := hoc.at (by omega)
        have ya := xa k hkn
        have yb := xb k hkn
        have yc := xc k hkn
        obtain ⟨A, hA⟩ : ∃ A, A = ma.getD k 0 := ⟨_, rfl⟩
        obtain ⟨B, hB⟩ : ∃ B, B = mb.getD k 0 := ⟨_, rfl⟩
        obtain ⟨C, hC⟩ : ∃ C, C = mc.getD k 0 := ⟨_, rfl⟩
        have A8 : A < 256 := by rw [hA]; exact Oct_getD hoa.2.2.1 k
        have B8 : B < 256 := by rw [hB]; exact Oct_getD hob.2.2.1 k
        have C8 : C < 256 := by rw [hC]; exact Oct_getD hoc.2.2.1 k
        rw [← hA] at ya
        rw [← hB] at yb
        rw [← hC] at yc
        have HX : Hid (xors ma mb mc k ++ [A ^^^ B ^^^ C] = xors ma mb mc (k + 1)) := by show _ = _; rw [hA, hB, hC]; exact xors_succ ma mb mc k
        have HO : Hid (Own wr u1.heap.size ad k cd (xors ma mb mc k)) := hown
        have HR : Hid (Below u1.heap.size u1 wr) := hbr
        clear hown hbr hoa hob hoc xa xb xc hA hB hC HA' HB' HC' h1
        have i0 : k < len0 := by omega
        have i1 : k < len1 := by omega
        have i2 : k < len2 := by omega
        go_wp2
        go_region_law (refine step_append_bytes rfl (.tmp 30) (.tmp 45) rfl u1.heap.size ad k cd (xors ma mb mc k) (by simp [Act.eval]) (HO.out.below ((Below.refl _ _).drew.alloc (Nat.le_refl _) _)) ⟨wr.heap.size, 0, none⟩ 1 1 [A ^^^ B ^^^ C] (by simp [Act.eval]) (one_is _ _ _ (xor3 A8 B8 C8) (Crc.xor_lt8 (Crc.xor_lt8 A8 B8) C8)) (by omega) (by have := HR.out.size; simp; omega) (k + 1) rfl _ HX.out ?_; intro ad' cd' w2 hown2 hb2)
        all_goals
          have hb3 : Below u1.heap.size u1 w2 := ((HR.out.alloc HR.out.size _).drew).trans hb2
          clear ya yb yc hb2
          go_wp2
          go_roundw
          case rel => exact ⟨k + 1, ad', cd', by omega, by go_num, rfl, hown2, hb3⟩
          case measure => simp [intOf]; omega
      · have hkk : k = len0 := by omega
        rw [hkk] at hown ⊢
        clear hkk hkn hk k
        have HF : Four w wr a0 a1 a2 ad len0 ma mb mc (xors ma mb mc len0) := ⟨hoa, hob, hoc, hown.octs, later h1 hbr⟩
        have HFd : Four w wr.drew a0 a1 a2 ad len0 ma mb mc (xors ma mb mc len0) := HF.below ((Below.refl _ _).drew)
        have HT : Hid (Crc.crc ma ^^^ Crc.crc mb ^^^ Crc.crc mc = Crc.crc (xors ma mb mc len0)) := Crc.crc_three hoa.1 hob.1 hoc.1 hoa.2.2.1 hob.2.2.1 hoc.2.2.1
        have A6 : Crc.crc ma < 65536 := Crc.crc_lt hoa.2.2.1
        have B6 : Crc.crc mb < 65536 := Crc.crc_lt hob.2.2.1
        have C6 : Crc.crc mc < 65536 := Crc.crc_lt hoc.2.2.1
        clear hoa hob hoc hown hbr HF HA' HB' HC' h1
        have j0 : len0 ≤ cap0 := by omega
        have j1 : len0 ≤ cap1 := by omega
        have j2 : len0 ≤ cap2 := by omega
        go_wp2
        go_region_with (first | (go_at_call_of 12 (Value.slice a0 len0 cap0); refine (four_a cap0 (by assumption)).mono ?_; rintro e w' ⟨rfl, hF'⟩) | (go_at_call_of 12 (Value.slice a1 len0 cap1); refine (four_b cap1 (by assumption)).mono ?_; rintro e w' ⟨rfl, hF'⟩) | (go_at_call_of 12 (Value.slice a2 len0 cap2); refine (four_c cap2 (by assumption)).mono ?_; rintro e w' ⟨rfl, hF'⟩) | (go_at_call_of 12 (Value.slice ad len0 cd); refine (four_d cd (by assumption)).mono ?_; rintro e w' ⟨rfl, hF'⟩))
        all_goals
          go_wp2
          go_ret
          exact ⟨ret_bool (by rw [xor3w A6 B6 C6, HT.out]; simp), hF'.2.2.2.2⟩
set_option maxHeartbeats 2000000 in
theorem leaf3 (a0 : Option Addr) (len0 cap0 : Nat) (a1 : Option Addr) (len1 cap1 : Nat) (a2 : Option Addr) (len2 cap2 : Nat) (la lb lc : List Nat) (w : World) (HA : Hid (Octs w a0 len0 la)) (HB : Hid (Octs w a1 len1 lb)) (HC : Hid (Octs w a2 len2 lc))
    (ca0 : len0 ≤ cap0) (cb0 : cap0 ≤ 9223372036854775807) (ca1 : len1 ≤ cap1) (cb1 : cap1 ≤ 9223372036854775807) (ca2 : len2 ≤ cap2) (cb2 : cap2 ≤ 9223372036854775807) (t1 : ¬ len2 < len1) (t2 : len1 < len0) :
    Calls Try.prog 10 #[.slice a0 len0 cap0, .slice a1 len1 cap1, .slice a2 len2 cap2] w fun e w' => e = .returned (.bool true) ∧ Below w.heap.size w w' := by
  by_cases hb : 1000 < len1
  · go_enter Try.func10, Try.ntmps10
    go_wp2_with (go_at_call 11; refine (known_any _).mono ?_; rintro e w' ⟨rfl, hbel⟩)
    go_ret
    exact ⟨rfl, hbel⟩
  · have HA' : Hid (Octs w a0 len1 (la.take len1)) := HA.out.take (by omega)
    have HB' : Hid (Octs w a1 len1 (lb.take len1)) := HB.out.take (by omega)
    have HC' : Hid (Octs w a2 len1 (lc.take len1)) := HC.out.take (by omega)
    clear HA HB HC
    obtain ⟨ma, hma⟩ : ∃ m, m = la.take len1 := ⟨_, rfl⟩
    obtain ⟨mb, hmb⟩ : ∃ m, m = lb.take len1 := ⟨_, rfl⟩
    obtain ⟨mc, hmc⟩ : ∃ m, m = lc.take len1 := ⟨_, rfl⟩
    rw [← hma] at HA'
    rw [← hmb] at HB'
    rw [← hmc] at HC'
    clear hma hmb hmc la lb lc
    go_enter Try.func10, Try.ntmps10
    go_wp2_with fail
    refine (known_any _).mono ?_
    rintro e u1 ⟨rfl, h1⟩
    go_wp2_with fail
    go_loopw [8, 9] (fun v i wr => ∃ (k : Nat) (ad : Option Addr) (cd : Nat), k ≤ len1 ∧ i = .int .i64 k ∧ v = .slice ad k cd ∧ Own wr u1.heap.size ad k cd (xors ma mb mc k) ∧ Below u1.heap.size u1 wr) (fun _ i _ => len1 - (intOf i).toNat)
    case atStart => exact ⟨0, none, 0, Nat.zero_le _, rfl, rfl, Own.empty _ _, Below.refl _ _⟩
    case round =>
      obtain ⟨k, ad, cd, hk, rfl, rfl, hown, hbr⟩ := hrel
      have hoa := (HA'.out.below h1).below hbr
      have hob := (HB'.out.below h1).below hbr
      have hoc := (HC'.out.below h1).below hbr
      by_cases hkn : k < len1
      · obtain ⟨ba, fa, rfl, xa⟩ := hoa.at (by omega)
        obtain ⟨bb, fb, rfl, xb⟩ := hob.at (by omega)
        obtain ⟨bc, fc, rfl, xc⟩ := hoc.at (by omega)
        have ya := xa k hkn
        have yb := xb k hkn
        have yc := xc k hkn
        obtain ⟨A, hA⟩ : ∃ A, A = ma.getD k 0 := ⟨_, rfl⟩
        obtain ⟨B, hB⟩ : ∃ B, B = mb.getD k 0 := ⟨_, rfl⟩
        obtain ⟨C, hC⟩ : ∃ C, C = mc.getD k 0 := ⟨_, rfl⟩
        have A8 : A < 256 := by rw [hA]; exact Oct_getD hoa.2.2.1 k
        have B8 : B < 256 := by rw [hB]; exact Oct_getD hob.2.2.1 k
        have C8 : C < 256 := by rw [hC]; exact Oct_getD hoc.2.2.1 k
        rw [← hA] at ya
        rw [← hB] at yb
        rw [← hC] at yc
        have HX : Hid (xors ma mb mc k ++ [A ^^^ B ^^^ C] = xors ma mb mc (k + 1)) := by show _ = _; rw [hA, hB, hC]; exact xors_succ ma mb mc k
        have HO : Hid (Own wr u1.heap.size ad k cd (xors ma mb mc k)) := hown
        have HR : Hid (Below u1.heap.size u1 wr) := hbr
        clear hown hbr hoa hob hoc xa xb xc hA hB hC HA' HB' HC' h1
        have i0 : k < len0 := by omega
        have i1 : k < len1 := by omega
        have i2 : k < len2 := by omega
        go_wp2
        go_region_law (refine step_append_bytes rfl (.tmp 30) (.tmp 45) rfl u1.heap.size ad k cd (xors ma mb mc k) (by simp [Act.eval]) (HO.out.below ((Below.refl _ _).drew.alloc (Nat.le_refl _) _)) ⟨wr.heap.size, 0, none⟩ 1 1 [A ^^^ B ^^^ C] (by simp [Act.eval]) (one_is _ _ _ (xor3 A8 B8 C8) (Crc.xor_lt8 (Crc.xor_lt8 A8 B8) C8)) (by omega) (by have := HR.out.size; simp; omega) (k + 1) rfl _ HX.out ?_; intro ad' cd' w2 hown2 hb2)
        all_goals
          have hb3 : Below u1.heap.size u1 w2 := ((HR.out.alloc HR.out.size _).drew).trans hb2
          clear ya yb yc hb2
          go_wp2
          go_roundw
          case rel => exact ⟨k + 1, ad', cd', by omega, by go_num, rfl, hown2, hb3⟩
          case measure => simp [intOf]; omega
      · have hkk : k = len1 := by omega
        rw [hkk] at hown ⊢
        clear hkk hkn hk k
        have HF : Four w wr a0 a1 a2 ad len1 ma mb mc (xors ma mb mc len1) := ⟨hoa, hob, hoc, hown.octs, later h1 hbr⟩
        have HFd : Four w wr.drew a0 a1 a2 ad len1 ma mb mc (xors ma mb mc len1) := HF.below ((Below.refl _ _).drew)
        have HT : Hid (Crc.crc ma ^^^ Crc.crc mb ^^^ Crc.crc mc = Crc.crc (xors ma mb mc len1)) := Crc.crc_three hoa.1 hob.1 hoc.1 hoa.2.2.1 hob.2.2.1 hoc.2.2.1
        have A6 : Crc.crc ma < 65536 := Crc.crc_lt hoa.2.2.1
        have B6 : Crc.crc mb < 65536 := Crc.crc_lt hob.2.2.1
        have C6 : Crc.crc mc < 65536 := Crc.crc_lt hoc.2.2.1
        clear hoa hob hoc hown hbr HF HA' HB' HC' h1
        have j0 : len1 ≤ cap0 := by omega
        have j1 : len1 ≤ cap1 := by omega
        have j2 : len1 ≤ cap2 := by omega
        go_wp2
        go_region_with (first | (go_at_call_of 12 (Value.slice a0 len1 cap0); refine (four_a cap0 (by assumption)).mono ?_; rintro e w' ⟨rfl, hF'⟩) | (go_at_call_of 12 (Value.slice a1 len1 cap1); refine (four_b cap1 (by assumption)).mono ?_; rintro e w' ⟨rfl, hF'⟩) | (go_at_call_of 12 (Value.slice a2 len1 cap2); refine (four_c cap2 (by assumption)).mono ?_; rintro e w' ⟨rfl, hF'⟩) | (go_at_call_of 12 (Value.slice ad len1 cd); refine (four_d cd (by assumption)).mono ?_; rintro e w' ⟨rfl, hF'⟩))
        all_goals
          go_wp2
          go_ret
          exact ⟨ret_bool (by rw [xor3w A6 B6 C6, HT.out]; simp), hF'.2.2.2.2⟩
set_option maxHeartbeats 2000000 in
theorem leaf4 (a0 : Option Addr) (len0 cap0 : Nat) (a1 : Option Addr) (len1 cap1 : Nat) (a2 : Option Addr) (len2 cap2 : Nat) (la lb lc : List Nat) (w : World) (HA : Hid (Octs w a0 len0 la)) (HB : Hid (Octs w a1 len1 lb)) (HC : Hid (Octs w a2 len2 lc))
    (ca0 : len0 ≤ cap0) (cb0 : cap0 ≤ 9223372036854775807) (ca1 : len1 ≤ cap1) (cb1 : cap1 ≤ 9223372036854775807) (ca2 : len2 ≤ cap2) (cb2 : cap2 ≤ 9223372036854775807) (t1 : ¬ len2 < len1) (t2 : ¬ len1 < len0) :
    Calls Try.prog 10 #[.slice a0 len0 cap0, .slice a1 len1 cap1, .slice a2 len2 cap2] w fun e w' => e = .returned (.bool true) ∧ Below w.heap.size w w' := by
  by_cases hb : 1000 < len0
  · go_enter Try.func10, Try.ntmps10
    go_wp2_with (go_at_call 11; refine (known_any _).mono ?_; rintro e w' ⟨rfl, hbel⟩)
    go_ret
    exact ⟨rfl, hbel⟩
  · have HA' : Hid (Octs w a0 len0 (la.take len0)) := HA.out.take (by omega)
    have HB' : Hid (Octs w a1 len0 (lb.take len0)) := HB.out.take (by omega)
    have HC' : Hid (Octs w a2 len0 (lc.take len0)) := HC.out.take (by omega)
    clear HA HB HC
    obtain ⟨ma, hma⟩ : ∃ m, m = la.take len0 := ⟨_, rfl⟩
    obtain ⟨mb, hmb⟩ : ∃ m, m = lb.take len0 := ⟨_, rfl⟩
    obtain ⟨mc, hmc⟩ : ∃ m, m = lc.take len0 := ⟨_, rfl⟩
    rw [← hma] at HA'
    rw [← hmb] at HB'
    rw [← hmc] at HC'
    clear hma hmb hmc la lb lc
    go_enter Try.func10, Try.ntmps10
    go_wp2_with fail
    refine (known_any _).mono ?_
    rintro e u1 ⟨rfl, h1⟩
    go_wp2_with fail
    go_loopw [8, 9] (fun v i wr => ∃ (k : Nat) (ad : Option Addr) (cd : Nat), k ≤ len0 ∧ i = .int .i64 k ∧ v = .slice ad k cd ∧ Own wr u1.heap.size ad k cd (xors ma mb mc k) ∧ Below u1.heap.size u1 wr) (fun _ i _ => len0 - (intOf i).toNat)
    case atStart => exact ⟨0, none, 0, Nat.zero_le _, rfl, rfl, Own.empty _ _, Below.refl _ _⟩
    case round =>
      obtain ⟨k, ad, cd, hk, rfl, rfl, hown, hbr⟩ := hrel
      have hoa := (HA'.out.below h1).below hbr
      have hob := (HB'.out.below h1).below hbr
      have hoc := (HC'.out.below h1).below hbr
      by_cases hkn : k < len0
      · obtain ⟨ba, fa, rfl, xa⟩ := hoa.at (by omega)
        obtain ⟨bb, fb, rfl, xb⟩ := hob.at (by omega)
        obtain ⟨bc, fc, rfl, xc⟩ := hoc.at (by omega)
        have ya := xa k hkn
        have yb := xb k hkn
        have yc := xc k hkn
        obtain ⟨A, hA⟩ : ∃ A, A = ma.getD k 0 := ⟨_, rfl⟩
        obtain ⟨B, hB⟩ : ∃ B, B = mb.getD k 0 := ⟨_, rfl⟩
        obtain ⟨C, hC⟩ : ∃ C, C = mc.getD k 0 := ⟨_, rfl⟩
        have A8 : A < 256 := by rw [hA]; exact Oct_getD hoa.2.2.1 k
        have B8 : B < 256 := by rw [hB]; exact Oct_getD hob.2.2.1 k
        have C8 : C < 256 := by rw [hC]; exact Oct_getD hoc.2.2.1 k
        rw [← hA] at ya
        rw [← hB] at yb
        rw [← hC] at yc
        have HX : Hid (xors ma mb mc k ++ [A ^^^ B ^^^ C] = xors ma mb mc (k + 1)) := by show _ = _; rw [hA, hB, hC]; exact xors_succ ma mb mc k
        have HO : Hid (Own wr u1.heap.size ad k cd (xors ma mb mc k)) := hown
        have HR : Hid (Below u1.heap.size u1 wr) := hbr
        clear hown hbr hoa hob hoc xa xb xc hA hB hC HA' HB' HC' h1
        have i0 : k < len0 := by omega
        have i1 : k < len1 := by omega
        have i2 : k < len2 := by omega
        go_wp2
        go_region_law (refine step_append_bytes rfl (.tmp 30) (.tmp 45) rfl u1.heap.size ad k cd (xors ma mb mc k) (by simp [Act.eval]) (HO.out.below ((Below.refl _ _).drew.alloc (Nat.le_refl _) _)) ⟨wr.heap.size, 0, none⟩ 1 1 [A ^^^ B ^^^ C] (by simp [Act.eval]) (one_is _ _ _ (xor3 A8 B8 C8) (Crc.xor_lt8 (Crc.xor_lt8 A8 B8) C8)) (by omega) (by have := HR.out.size; simp; omega) (k + 1) rfl _ HX.out ?_; intro ad' cd' w2 hown2 hb2)
        all_goals
          have hb3 : Below u1.heap.size u1 w2 := ((HR.out.alloc HR.out.size _).drew).trans hb2
          clear ya yb yc hb2
          go_wp2
          go_roundw
          case rel => exact ⟨k + 1, ad', cd', by omega, by go_num, rfl, hown2, hb3⟩
          case measure => simp [intOf]; omega
      · have hkk : k = len0 := by omega
        rw [hkk] at hown ⊢
        clear hkk hkn hk k
        have HF : Four w wr a0 a1 a2 ad len0 ma mb mc (xors ma mb mc len0) := ⟨hoa, hob, hoc, hown.octs, later h1 hbr⟩
        have HFd : Four w wr.drew a0 a1 a2 ad len0 ma mb mc (xors ma mb mc len0) := HF.below ((Below.refl _ _).drew)
        have HT : Hid (Crc.crc ma ^^^ Crc.crc mb ^^^ Crc.crc mc = Crc.crc (xors ma mb mc len0)) := Crc.crc_three hoa.1 hob.1 hoc.1 hoa.2.2.1 hob.2.2.1 hoc.2.2.1
        have A6 : Crc.crc ma < 65536 := Crc.crc_lt hoa.2.2.1
        have B6 : Crc.crc mb < 65536 := Crc.crc_lt hob.2.2.1
        have C6 : Crc.crc mc < 65536 := Crc.crc_lt hoc.2.2.1
        clear hoa hob hoc hown hbr HF HA' HB' HC' h1
        have j0 : len0 ≤ cap0 := by omega
        have j1 : len0 ≤ cap1 := by omega
        have j2 : len0 ≤ cap2 := by omega
        go_wp2
        go_region_with (first | (go_at_call_of 12 (Value.slice a0 len0 cap0); refine (four_a cap0 (by assumption)).mono ?_; rintro e w' ⟨rfl, hF'⟩) | (go_at_call_of 12 (Value.slice a1 len0 cap1); refine (four_b cap1 (by assumption)).mono ?_; rintro e w' ⟨rfl, hF'⟩) | (go_at_call_of 12 (Value.slice a2 len0 cap2); refine (four_c cap2 (by assumption)).mono ?_; rintro e w' ⟨rfl, hF'⟩) | (go_at_call_of 12 (Value.slice ad len0 cd); refine (four_d cd (by assumption)).mono ?_; rintro e w' ⟨rfl, hF'⟩))
        all_goals
          go_wp2
          go_ret
          exact ⟨ret_bool (by rw [xor3w A6 B6 C6, HT.out]; simp), hF'.2.2.2.2⟩
set_option maxHeartbeats 1000000 in
theorem walk (a0 : Option Addr) (len0 cap0 : Nat) (z0 : List Int) (a1 : Option Addr) (len1 cap1 : Nat) (z1 : List Int) (a2 : Option Addr) (len2 cap2 : Nat) (z2 : List Int) (w : World) (w0 : IsRow .u8 w a0 len0 cap0 z0) (w1 : IsRow .u8 w a1 len1 cap1 z1) (w2 : IsRow .u8 w a2 len2 cap2 z2) :
    Calls Try.prog 10 #[.slice a0 len0 cap0, .slice a1 len1 cap1, .slice a2 len2 cap2] w fun e w' => e = .returned (.bool true) ∧ Below w.heap.size w w' := by
  have HA : Hid (Octs w a0 len0 _) := octs_of w0
  have HB : Hid (Octs w a1 len1 _) := octs_of w1
  have HC : Hid (Octs w a2 len2 _) := octs_of w2
  obtain ⟨ca0, cb0⟩ := cap_of w0
  obtain ⟨ca1, cb1⟩ := cap_of w1
  obtain ⟨ca2, cb2⟩ := cap_of w2
  by_cases h12 : len2 < len1
  · by_cases h02 : len2 < len0
    · exact leaf1 a0 len0 cap0 a1 len1 cap1 a2 len2 cap2 _ _ _ w HA HB HC ca0 cb0 ca1 cb1 ca2 cb2 h12 h02
    · exact leaf2 a0 len0 cap0 a1 len1 cap1 a2 len2 cap2 _ _ _ w HA HB HC ca0 cb0 ca1 cb1 ca2 cb2 h12 h02
  · by_cases h01 : len1 < len0
    · exact leaf3 a0 len0 cap0 a1 len1 cap1 a2 len2 cap2 _ _ _ w HA HB HC ca0 cb0 ca1 cb1 ca2 cb2 h12 h01
    · exact leaf4 a0 len0 cap0 a1 len1 cap1 a2 len2 cap2 _ _ _ w HA HB HC ca0 cb0 ca1 cb1 ca2 cb2 h12 h01

set_option maxRecDepth 100000 in
theorem lifted (os : Os) (started : os.Started) (H : Type) (enc : TypeId × Value → H) :
    ReturnsInHanded {} Try.checked os 10 .any (Rows.crcThreeSpec.pre6 enc Try.prog Try.f10 Rows.crcThreeRow.domain false) (Rows.crcThreeSpec.post enc Try.prog Try.f10 false true false false) := by
  refine returnsInHanded_of_change (C := Try.checked) own started (by kernel_rfl) Try.func10
    (ChangeSpec.witness6 (enc := enc) (C := Try.checked) false ⟨#[], #[.slice none 0 0, .slice none 0 0, .slice none 0 0], []⟩ 8 (by kernel_rfl) (by kernel_rfl) (by kernel_rfl) (by kernel_rfl)) ?_
  intro W base args ds gs before hval0 hW hcnd _
  have hval : ∀ (j : Nat) t v, Try.f10.params[j]? = some t → args[j]? = some v → Value.okWide Try.prog W .any base t v := hval0
  have hW' := hW
  obtain ⟨p, q, hA0, hV, rfl, hfz, hnd⟩ := hW
  have hA : DataW.TrodAll enc Try.prog W 0 (fun _ => true) true Try.f10.params.toList args.toList ds p := hA0
  rw [Try.params10] at hA hval
  obtain ⟨v0, vs0, d0, ds0, p0, q0, hargs, rfl, rfl, h0, r0⟩ := trodAll_cons hA
  obtain ⟨v1, vs1, d1, ds1, p1, q1, rfl, rfl, rfl, h1, r1⟩ := trodAll_cons r0
  obtain ⟨v2, vs2, d2, ds2, p2, q2, rfl, rfl, rfl, h2, r2⟩ := trodAll_cons r1
  obtain ⟨rfl, rfl, rfl⟩ := trodAll_nil r2
  obtain rfl : args = #[v0, v1, v2] := by cases args; simp_all
  obtain ⟨rfl, rfl⟩ := trodVars_none hV
  obtain ⟨a0, len0, cap0, rfl⟩ := okWide_slice Try.underlying22 (hval 0 22 v0 rfl rfl)
  have k0 := h0
  have lt0 : ∀ x ∈ p0, x.block < W.heap.size := by obtain ⟨m, hm⟩ := k0; exact DataW.trod_lt m _ _ _ hm
  obtain ⟨z0, w0⟩ : ∃ zs, IsRow .u8 W a0 len0 cap0 zs := by
    obtain ⟨fuel, hf⟩ := h0
    rcases open_ints Try.underlying22 Try.underlying5 (by kernel_rfl) hf with ⟨hcs, _⟩ | ⟨x, l, c, zs, hcs, _, hl, hm, hz, _, hcell, hwz⟩
    · simp [Value.cells] at hcs
      obtain ⟨rfl, rfl, rfl⟩ := hcs
      exact ⟨[], .inl ⟨rfl, rfl, rfl, rfl⟩⟩
    · simp [Value.cells] at hcs
      obtain ⟨rfl, rfl, rfl⟩ := hcs
      exact ⟨zs, .inr ⟨_, rfl, hl, hm, by simpa using hz, hcell, hwz⟩⟩
  obtain ⟨a1, len1, cap1, rfl⟩ := okWide_slice Try.underlying22 (hval 1 22 v1 rfl rfl)
  have k1 := h1
  have lt1 : ∀ x ∈ p1, x.block < W.heap.size := by obtain ⟨m, hm⟩ := k1; exact DataW.trod_lt m _ _ _ hm
  obtain ⟨z1, w1⟩ : ∃ zs, IsRow .u8 W a1 len1 cap1 zs := by
    obtain ⟨fuel, hf⟩ := h1
    rcases open_ints Try.underlying22 Try.underlying5 (by kernel_rfl) hf with ⟨hcs, _⟩ | ⟨x, l, c, zs, hcs, _, hl, hm, hz, _, hcell, hwz⟩
    · simp [Value.cells] at hcs
      obtain ⟨rfl, rfl, rfl⟩ := hcs
      exact ⟨[], .inl ⟨rfl, rfl, rfl, rfl⟩⟩
    · simp [Value.cells] at hcs
      obtain ⟨rfl, rfl, rfl⟩ := hcs
      exact ⟨zs, .inr ⟨_, rfl, hl, hm, by simpa using hz, hcell, hwz⟩⟩
  obtain ⟨a2, len2, cap2, rfl⟩ := okWide_slice Try.underlying22 (hval 2 22 v2 rfl rfl)
  have k2 := h2
  have lt2 : ∀ x ∈ p2, x.block < W.heap.size := by obtain ⟨m, hm⟩ := k2; exact DataW.trod_lt m _ _ _ hm
  obtain ⟨z2, w2⟩ : ∃ zs, IsRow .u8 W a2 len2 cap2 zs := by
    obtain ⟨fuel, hf⟩ := h2
    rcases open_ints Try.underlying22 Try.underlying5 (by kernel_rfl) hf with ⟨hcs, _⟩ | ⟨x, l, c, zs, hcs, _, hl, hm, hz, _, hcell, hwz⟩
    · simp [Value.cells] at hcs
      obtain ⟨rfl, rfl, rfl⟩ := hcs
      exact ⟨[], .inl ⟨rfl, rfl, rfl, rfl⟩⟩
    · simp [Value.cells] at hcs
      obtain ⟨rfl, rfl, rfl⟩ := hcs
      exact ⟨zs, .inr ⟨_, rfl, hl, hm, by simpa using hz, hcell, hwz⟩⟩
  clear hA0 hval0
  refine (walk a0 len0 cap0 z0 a1 len1 cap1 z1 a2 len2 cap2 z2 W w0 w1 w2).mono fun e W' ⟨he, bel⟩ => ?_
  subst he
  exact ⟨_, rfl, _, _, _, [], _, [], hW', trodAll_mk1 (shut_bool Try.underlying4 _), (trodAll_cons_mk (Below.trod laidOut (by kernel_rfl) (of_decide_eq_true (by kernel_rfl)) k0 bel lt0) (trodAll_cons_mk (Below.trod laidOut (by kernel_rfl) (of_decide_eq_true (by kernel_rfl)) k1 bel lt1) (trodAll_cons_mk (Below.trod laidOut (by kernel_rfl) (of_decide_eq_true (by kernel_rfl)) k2 bel lt2) trodAll_mk0))), rfl, bel.frame _, fun h => by cases h⟩

theorem over : Rows.crcThreeRow.holds Try.pinned (OpenSpec.ofChange Rows.crcThreeSpec) :=
  OpenClaim.holds_of_wide 10 Try.f10 rfl rfl rfl rfl rfl rfl rfl ⟨rfl, rfl, rfl, rfl, rfl⟩ rfl rfl rfl rfl rfl (by kernel_rfl) Try.func10 (by kernel_rfl)
    (of_decide_eq_true (by kernel_rfl)) (by unfold Func.isWrapper; first | (rw [if_pos (by decide +kernel)]; kernel_rfl) | (rw [if_neg (by decide +kernel)]; exact ⟨rfl, rfl⟩))
    (fun os started H enc _ => lifted os started H enc)

theorem proved : Rows.CrcThreeSaid := over
#print axioms proved
end Go.Proofs.Ytlhkpmgjjhhniaa.crcThree
