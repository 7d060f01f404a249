/-
  The document's own rings (package shunterref08): first, Head, All, Len, Same on the call's own. Conditions: none but that the rings are such.
-/
import Derived.Test.YtpbeldcaiceakaaRefRing
namespace Go.Proofs.Ytpbeldcaiceakaa
open Go.ChangeShapes Go.WideShapes Go.ChangeAt Go.RowKit
set_option linter.unusedVariables false

theorem fidx_of {ls : List Ent} {q : Pl} {k : Nat} {e : Ent} (hk : ls[k]? = some e) (he : e.1 = q) (hno : ∀ (j : Nat) (f : Ent), j < k → ls[j]? = some f → f.1 ≠ q) : fidx ls q = some k := by
  unfold fidx
  rw [List.findIdx?_eq_some_iff_getElem]
  obtain ⟨hlt, hk2⟩ := List.getElem?_eq_some_iff.1 hk
  refine ⟨hlt, ?_, fun j hj => ?_⟩
  · rw [hk2]; exact decide_eq_true he
  · intro hc
    exact hno j _ hj (List.getElem?_eq_getElem (by omega)) (of_decide_eq_true hc)
theorem fidx_no {ls : List Ent} {q : Pl} (hno : ∀ (j : Nat) (f : Ent), j < ls.length → ls[j]? = some f → f.1 ≠ q) : fidx ls q = none := by
  unfold fidx
  rw [List.findIdx?_eq_none_iff]
  intro e he
  obtain ⟨j, hj, rfl⟩ := List.getElem_of_mem he
  exact decide_eq_false (hno j _ hj (List.getElem?_eq_getElem hj))
def fz (ls : List Ent) (q : Pl) : Int := match fidx ls q with | some j => j | none => -1
theorem fz_some {ls : List Ent} {q : Pl} {j : Nat} (h : fidx ls q = some j) : fz ls q = j := by unfold fz; rw [h]
theorem fz_none {ls : List Ent} {q : Pl} (h : fidx ls q = none) : fz ls q = -1 := by unfold fz; rw [h]
theorem take_ent {ls : List Ent} {k : Nat} {e : Ent} (h : ls[k]? = some e) : ls.take (k + 1) = ls.take k ++ [e] := by
  rw [List.take_add_one, h]; rfl
section
variable {w : World} {F : Nat → Prop} {r P L n : Nat} {ls : List Ent}
set_option maxHeartbeats 2000000 in
set_option maxRecDepth 100000 in
theorem refFirst_any (h : RefAt w F r P L n ls) (i o l : Int) (z : Int) (hz : fz ls (i, o, l) = z) :
    Calls Try.prog 33 #[.pointer (some ⟨r, 0, none⟩), .int .i64 i, .int .i64 o, .int .i64 l] w fun e w' => e = .returned (.int .i64 z) ∧ w' = w := by
  obtain ⟨a, cap, h⟩ := h
  have HR : Hid (RefIn w F r P L n ls a cap) := h
  have hc3 := h.c3
  obtain ⟨m, hm⟩ : ∃ m, ls.length = m := ⟨_, rfl⟩
  have HN : Hid (ls.length = m) := hm
  have HF : Hid (fz ls (i, o, l) = z) := hz
  rw [hm] at hc3
  have hm2 : m ≤ 200 := by have := h.len; have := h.n2; omega
  clear h hm hz
  go_enter Try.func33, Try.ntmps33
  go_wp2_with fail
  go_loopw [9] (fun x wr => ∃ k : Nat, k ≤ m ∧ x = .int .i64 k ∧ (∀ (j : Nat) (f : Ent), j < k → ls[j]? = some f → f.1 ≠ (i, o, l)) ∧ wr = w) (fun x _ => m - (intOf x).toNat)
  case atStart => exact ⟨0, Nat.zero_le _, rfl, fun j f hj => by omega, rfl⟩
  case round =>
    obtain ⟨k, hk, rfl, hno, rfl⟩ := hrel
    have HNo : Hid (∀ (j : Nat) (f : Ent), j < k → ls[j]? = some f → f.1 ≠ (i, o, l)) := hno
    clear hno
    by_cases hkm : k < m
    · have hkm' : (k : Int) < m := by omega
      obtain ⟨e, he⟩ : ∃ e, ls[k]? = some e := ⟨_, List.getElem?_eq_getElem (by have := HN.out; omega)⟩
      obtain ⟨g, hag, hgl, hcap, hcm, q0, q1, q2, _⟩ := HR.out.at he
      subst hag
      have HE : Hid (ls[k]? = some e) := he
      obtain ⟨⟨ei, eo, el⟩, ex⟩ := e
      simp only at q0 q1 q2
      clear he hcap hcm
      have go : (¬ ((ei, eo, el) : Pl) = (i, o, l)) → ∀ (j : Nat) (f : Ent), j < k + 1 → ls[j]? = some f → f.1 ≠ (i, o, l) := fun hne j f hj hf => by
        by_cases e : j = k
        · rw [e, HE.out] at hf
          simp at hf
          rw [← hf]
          exact hne
        · exact HNo.out j f (by omega) hf
      have HG : Hid ((¬ ((ei, eo, el) : Pl) = (i, o, l)) → ∀ (j : Nat) (f : Ent), j < k + 1 → ls[j]? = some f → f.1 ≠ (i, o, l)) := go
      clear go
      by_cases h1 : ei = i
      · by_cases h2 : eo = o
        · by_cases h3 : el = l
          · subst h1 h2 h3
            have hzk := fz_some (fidx_of HE.out rfl HNo.out)
            rw [HF.out] at hzk
            subst hzk
            go_wp2_with fail
            go_ret
            exact ⟨rfl, rfl⟩
          · have h3' : (el == l) = false := by simpa using h3
            subst h1 h2
            go_wp2_with fail
            go_roundw
            case rel => exact ⟨k + 1, by omega, by go_num, HG.out (fun e => h3 (by simp only [Prod.mk.injEq] at e; exact e.2.2)), by first | rfl | trivial⟩
            case measure => simp [intOf]; omega
        · have h2' : (eo == o) = false := by simpa using h2
          subst h1
          go_wp2_with fail
          go_roundw
          case rel => exact ⟨k + 1, by omega, by go_num, HG.out (fun e => h2 (by simp only [Prod.mk.injEq] at e; exact e.2.1)), by first | rfl | trivial⟩
          case measure => simp [intOf]; omega
      · have h1' : (ei == i) = false := by simpa using h1
        go_wp2_with fail
        go_roundw
        case rel => exact ⟨k + 1, by omega, by go_num, HG.out (fun e => h1 (by simp only [Prod.mk.injEq] at e; exact e.1)), by first | rfl | trivial⟩
        case measure => simp [intOf]; omega
    · obtain rfl : k = m := by omega
      have hzk := fz_none (fidx_no (q := (i, o, l)) (fun j f hj hf => HNo.out j f (by have := HN.out; omega) hf))
      rw [HF.out] at hzk
      subst hzk
      go_wp2_with fail
      go_ret
      exact ⟨rfl, rfl⟩
end
end Go.Proofs.Ytpbeldcaiceakaa
