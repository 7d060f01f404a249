/-
  For every slice of bytes, the law CrcStays of package shunterlaw02 returns true and leaves the slice as it was. Conditions: none.
-/
import Derived.Test.YtlhkpmgjjhhniaaCrcMath
import Derived.Test.YtlhkpmgjjhhniaaCrcCalls
import Derived.Test.YtlhkpmgjjhhniaaCrcKnown
import Derived.Test.YtlhkpmgjjhhniaaCrcOwn
import Derived.Test.YtlhkpmgjjhhniaaRows
import Derived.WalkKit
import Derived.ProofKit
import Derived.OpenShut
import Derived.ShutString
import Derived.ChangeOld
import Derived.Below
namespace Go.Proofs.Ytlhkpmgjjhhniaa.crcStays
open Go.ChangeShapes Go.WideShapes Go.ChangeAt Go.RowKit
open Go.ChangeMaps (open_string shut_string)
set_option linter.unusedVariables false

theorem own : ownKnob Try.prog.godebug = none := by kernel_rfl
theorem laidOut : laidOutB Try.prog = true := by kernel_rfl

/-- WHAT THE WALK IS TOLD OF A SLICE OF INTEGERS THAT CAME IN: it is nil; or it leads to a row of 'cap' cells, the numbers 'zs' (the first 'len' are its elements, the rest its spare room), each fitting its kind. -/
def IsRow (k : IntKind) (w : World) (a : Option Addr) (len cap : Nat) (zs : List Int) : Prop :=
  (a = none ∧ len = 0 ∧ cap = 0 ∧ zs = []) ∨
  ∃ x, a = some x ∧ len ≤ cap ∧ cap ≤ maxLen ∧ zs.length = cap ∧ (∀ i, i < zs.length → w.cell? (x.add i) = some (.int k (zs.getD i 0))) ∧ ∀ n ∈ zs, (Lit.int k n).wf = true

def strOf (l : List Nat) : ByteArray := ⟨(l.map UInt8.ofNat).toArray⟩
theorem strOf_size (l : List Nat) : (strOf l).size = l.length := by
  show (l.map UInt8.ofNat).toArray.size = _
  simp
theorem str_run {u : World} {a : Option Addr} {len cap : Nat} {l : List Nat} (h : Octs u a len l) : (convert 22 9 (.slice a len cap)).run Try.prog u = .ok (.string (strOf l)) u := by
  obtain ⟨h1, h2, h3, h4⟩ := h
  cases a with
  | none =>
    have h0 : len = 0 := by
      rcases h4 with h | ⟨b, off, e, _⟩
      · exact h
      · cases e
    subst h0
    obtain rfl : l = [] := List.length_eq_zero_iff.1 h1
    rw [run_convert_bytes_string u 22 9 5 none 0 cap Try.underlying22 Try.underlying5 Try.underlying9]
    simp [Conv.bytesToString]
    rfl
  | some x =>
    have := run_convert_bytes_back (P := Try.prog) u 22 9 5 x cap (l.map UInt8.ofNat) Try.underlying22 Try.underlying5 Try.underlying9 (by
      intro j hj
      rw [List.length_map] at hj
      rcases h4 with h | ⟨b, off, e, _, hc⟩
      · omega
      · cases e
        have ea : (⟨b, off, none⟩ : Addr).add j = ⟨b, off + j, none⟩ := by
          unfold Addr.add; split
          · rename_i h; rw [h]; rfl
          · rfl
        rw [ea, hc j (by omega), Crc.getD_mem hj]
        have h8 : l[j] < 256 := h3 _ (List.getElem_mem hj)
        simp only [List.getElem_map]
        rw [show (UInt8.ofNat l[j]).toNat = l[j] by simp; omega])
    rw [List.length_map, h1] at this
    exact this
theorem bytes_run (u : World) (l : List Nat) (h : l.length ≤ maxLen) (o : Crc.Oct l) : ∃ v W, (convert 9 22 (.string (strOf l))).run Try.prog u = .ok v W ∧ Below u.heap.size u W ∧ ∃ a cap, v = .slice a l.length cap ∧ Octs W a l.length l := by
  refine ⟨_, _, run_bytes_of_string (P := Try.prog) u 9 22 5 (strOf l) Try.underlying9 Try.underlying22 Try.underlying5, ?_, _, _, by rw [strOf_size], rfl, h, o, .inr ⟨u.heap.size, 0, rfl, by simp, ?_⟩⟩
  · exact (Below.refl _ _).drew.alloc (Nat.le_refl _) _
  · intro i hi
    have e := World.cell?_alloc_mark u.drew (bytesRow (strOf l) (grownCap u (strOf l).size 0 5)) 5 ((bytesRow (strOf l) (grownCap u (strOf l).size 0 5)).size, (bytesRow (strOf l) (grownCap u (strOf l).size 0 5)).size + 1) (0 + i)
    refine e.trans ?_
    have hs : 0 + i < (strOf l).data.size := by rw [Nat.zero_add]; show i < (strOf l).size; rw [strOf_size]; exact hi
    rw [bytesRow_at _ _ _ hs]
    have h8 : l[i] < 256 := o _ (List.getElem_mem hi)
    rw [Crc.getD_mem hi]
    congr 2
    show ((UInt8.toNat ((l.map UInt8.ofNat).toArray[0 + i]'_) : Nat) : Int) = _
    simp
    omega
set_option maxHeartbeats 1000000 in
theorem walk (a0 : Option Addr) (len0 cap0 : Nat) (z0 : List Int) (w : World) (w0 : IsRow .u8 w a0 len0 cap0 z0) :
    Calls Try.prog 3 #[.slice a0 len0 cap0] w fun e w' => e = .returned (.bool true) ∧ Below w.heap.size w w' := by
  obtain ⟨l, hl⟩ : ∃ l, Octs w a0 len0 l := ⟨_, octs_of w0⟩
  have HL : Hid (Octs w a0 len0 l) := hl
  clear hl w0
  by_cases hb : 1000 < len0
  · go_enter Try.func3, Try.ntmps3
    go_wp2_with (go_at_call 11; refine (known_any _).mono ?_; rintro e w' ⟨rfl, hbel⟩)
    go_ret
    exact ⟨rfl, hbel⟩
  · obtain ⟨S, hS⟩ : ∃ S, S = strOf l := ⟨_, rfl⟩
    have HS : Hid (S = strOf l) := hS
    clear hS
    go_enter Try.func3, Try.ntmps3
    go_wp2_with fail
    refine (known_any _).mono ?_
    rintro e u1 ⟨rfl, h1⟩
    have k1 : (convert 22 9 (.slice a0 len0 cap0)).run Try.prog u1 = .ok (.string S) u1 := by rw [HS.out]; exact str_run (HL.out.below h1)
    go_wp2_with fail
    refine (sum_any _ _ _ l _ (HL.out.below h1)).mono ?_
    rintro e u2 ⟨rfl, h2⟩
    clear k1
    have k2 : (convert 22 9 (.slice a0 len0 cap0)).run Try.prog u2 = .ok (.string S) u2 := by rw [HS.out]; exact str_run ((HL.out.below h1).below h2)
    go_wp2_with fail
    refine (sum_any _ _ _ l _ ((HL.out.below h1).below h2)).mono ?_
    rintro e u3 ⟨rfl, h3⟩
    clear k2
    obtain ⟨v4, u4, k4, h4, a4, c4, rfl, ho4⟩ := bytes_run u3 l (by rw [HL.out.1]; exact HL.out.2.1) HL.out.2.2.1
    rw [← HS.out] at k4
    go_wp2_with fail
    refine (sum_any _ _ _ l _ ho4).mono ?_
    rintro e u5 ⟨rfl, h5⟩
    clear k4
    go_wp2_with fail
    go_ret
    exact ⟨ret_bool (by simp), later (later (later (later h1 h2) h3) h4) h5⟩

set_option maxRecDepth 100000 in
theorem lifted (os : Os) (started : os.Started) (H : Type) (enc : TypeId × Value → H) :
    ReturnsInHanded {} Try.checked os 3 .any (Rows.crcStaysSpec.pre6 enc Try.prog Try.f3 Rows.crcStaysRow.domain false) (Rows.crcStaysSpec.post enc Try.prog Try.f3 false true false false) := by
  refine returnsInHanded_of_change (C := Try.checked) own started (by kernel_rfl) Try.func3
    (ChangeSpec.witness6 (enc := enc) (C := Try.checked) false ⟨#[], #[.slice none 0 0], []⟩ 8 (by kernel_rfl) (by kernel_rfl) (by kernel_rfl) (by kernel_rfl)) ?_
  intro W base args ds gs before hval0 hW hcnd _
  have hval : ∀ (j : Nat) t v, Try.f3.params[j]? = some t → args[j]? = some v → Value.okWide Try.prog W .any base t v := hval0
  have hW' := hW
  obtain ⟨p, q, hA0, hV, rfl, hfz, hnd⟩ := hW
  have hA : DataW.TrodAll enc Try.prog W 0 (fun _ => true) true Try.f3.params.toList args.toList ds p := hA0
  rw [Try.params3] at hA hval
  obtain ⟨v0, vs0, d0, ds0, p0, q0, hargs, rfl, rfl, h0, r0⟩ := trodAll_cons hA
  obtain ⟨rfl, rfl, rfl⟩ := trodAll_nil r0
  obtain rfl : args = #[v0] := by cases args; simp_all
  obtain ⟨rfl, rfl⟩ := trodVars_none hV
  obtain ⟨a0, len0, cap0, rfl⟩ := okWide_slice Try.underlying22 (hval 0 22 v0 rfl rfl)
  have k0 := h0
  have lt0 : ∀ x ∈ p0, x.block < W.heap.size := by obtain ⟨m, hm⟩ := k0; exact DataW.trod_lt m _ _ _ hm
  obtain ⟨z0, w0⟩ : ∃ zs, IsRow .u8 W a0 len0 cap0 zs := by
    obtain ⟨fuel, hf⟩ := h0
    rcases open_ints Try.underlying22 Try.underlying5 (by kernel_rfl) hf with ⟨hcs, _⟩ | ⟨x, l, c, zs, hcs, _, hl, hm, hz, _, hcell, hwz⟩
    · simp [Value.cells] at hcs
      obtain ⟨rfl, rfl, rfl⟩ := hcs
      exact ⟨[], .inl ⟨rfl, rfl, rfl, rfl⟩⟩
    · simp [Value.cells] at hcs
      obtain ⟨rfl, rfl, rfl⟩ := hcs
      exact ⟨zs, .inr ⟨_, rfl, hl, hm, by simpa using hz, hcell, hwz⟩⟩
  clear hA0 hval0
  refine (walk a0 len0 cap0 z0 W w0).mono fun e W' ⟨he, bel⟩ => ?_
  subst he
  exact ⟨_, rfl, _, _, _, [], _, [], hW', trodAll_mk1 (shut_bool Try.underlying4 _), (trodAll_cons_mk (Below.trod laidOut (by kernel_rfl) (of_decide_eq_true (by kernel_rfl)) k0 bel lt0) trodAll_mk0), rfl, bel.frame _, fun h => by cases h⟩

theorem over : Rows.crcStaysRow.holds Try.pinned (OpenSpec.ofChange Rows.crcStaysSpec) :=
  OpenClaim.holds_of_wide 3 Try.f3 rfl rfl rfl rfl rfl rfl rfl ⟨rfl, rfl, rfl, rfl, rfl⟩ rfl rfl rfl rfl rfl (by kernel_rfl) Try.func3 (by kernel_rfl)
    (of_decide_eq_true (by kernel_rfl)) (by unfold Func.isWrapper; first | (rw [if_pos (by decide +kernel)]; kernel_rfl) | (rw [if_neg (by decide +kernel)]; exact ⟨rfl, rfl⟩))
    (fun os started H enc _ => lifted os started H enc)

theorem proved : Rows.CrcStaysSaid := over
#print axioms proved
end Go.Proofs.Ytlhkpmgjjhhniaa.crcStays
