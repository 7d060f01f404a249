/-
  The law HostGot of package shunterlaw15, over a slice of packets that is handed in. Conditions: that package host comes to what HostSpec says, and that the slice leads to packets.
-/
import Derived.Test.YtfldhjeeoaplfaaHostKnown
import Derived.Test.YtfldhjeeoaplfaaPktSame
namespace Go.Proofs.Ytfldhjeeoaplfaa
open Go.ChangeShapes Go.WideShapes Go.ChangeAt Go.RowKit
set_option linter.unusedVariables false

namespace Hst
theorem take_snoc {xs : List Pk} {k : Nat} (h : k < xs.length) {x : Pk} (hx : xs.getD k zpk = x) : xs.take k ++ [x] = xs.take (k + 1) := by
  rw [List.take_add_one, List.getElem?_eq_getElem h]
  rw [List.getD_eq_getElem?_getD, List.getElem?_eq_getElem h] at hx
  simp at hx
  rw [hx]
  rfl
end Hst
/-- a row of packets of the call's own, whatever it holds: a place in it may be written -/
theorem owns_place {w : World} {base m c : Nat} {a : Option Addr} {zs : List Value} (h : w.ownsRow base 27 4 (.slice a m c) m zs) {j : Nat} (hj : j < m) : ∃ g y, a = some ⟨g, 0, none⟩ ∧ base ≤ g ∧ w.cell? ⟨g, j * 4 + 3, none⟩ = some y ∧ w.frozen? ⟨g, j * 4 + 3, none⟩ = false ∧ ∀ u, ∃ zs', (w.setCell ⟨g, j * 4 + 3, none⟩ u).ownsRow base 27 4 (.slice a m c) m zs' := by
  have hl := h.1
  have h0 := h.2
  rcases h0 with ⟨_, e⟩ | ⟨g, cap, cur, e, hb, _⟩
  · omega
  · simp only [Value.slice.injEq] at e
    obtain ⟨rfl, _, rfl⟩ := e
    refine ⟨g, zs[j * 4 + 3]'(by omega), rfl, hb, ?_, h.frozenAt _, fun u => ⟨_, (h.stored (j * 4 + 3) u).1⟩⟩
    rw [h.cellAt (j * 4 + 3) (by omega), List.getElem?_eq_getElem]
set_option maxRecDepth 100000 in
set_option maxHeartbeats 4000000 in
theorem hostGot_any {H : HostRel} (S : HostSpec H) (w : World) (b : Option Addr) (len cap : Nat) (xs : List Pk) (hu : Pks w b len xs) :
    Calls Try.prog 7 #[.slice b len cap] w fun e w' => e = .returned (.bool true) ∧ Below w.heap.size w w' := by
  have HU : Hid (Pks w b len xs) := hu
  have HUl : Hid (xs.length = len) := hu.1
  have hlen := hu.2.1
  clear hu
  by_cases h100 : 100 < len
  · have g1 : decide ((100 : Int) < (len : Int)) = true := decide_eq_true (by omega)
    clear h100
    go_enter Try.func7, Try.ntmps7
    go_wp2_with fail
    refine (o_new S (w0 := w) (Z := fun _ => False) 3 8 (by omega) (by omega) (Below.refl _ _) hnone).mono ?_
    rintro e w1 ⟨p, rfl, m1, _⟩
    have H1 : Hid (Below w.heap.size w w1) := m1.below
    clear m1
    go_wp2_with fail
    refine (hknown_any S w1).mono ?_
    rintro e w2 ⟨rfl, b2⟩
    have H2 : Hid (Below w.heap.size w w2) := later H1.out b2
    clear b2
    go_wp2_with fail
    go_ret
    exact ⟨rfl, H2.out⟩
  · have g1 : decide ((100 : Int) < (len : Int)) = false := decide_eq_false (by omega)
    go_enter Try.func7, Try.ntmps7
    go_wp2_with fail
    refine (o_new S (w0 := w) (Z := fun _ => False) 3 8 (by omega) (by omega) (Below.refl _ _) hnone).mono ?_
    rintro e w1 ⟨p, rfl, m1, _⟩
    have H1 : Hid (Own1 H (fun _ => False) w w1 p 3 8 [] []) := m1
    clear m1
    go_wp2_with fail
    refine (o_put S H1.out hnone ⟨0, 0, 2, 1⟩ (z64_small (by show -1000 ≤ (2 : Int) ∧ (2 : Int) ≤ 1000; omega)) (z := 0) (by decide) (L' := [⟨0, 0, 2, 1⟩]) rfl).mono ?_
    rintro e w2 ⟨rfl, m2, _⟩
    have H2 : Hid (Own1 H (fun _ => False) w w2 p 3 8 [⟨0, 0, 2, 1⟩] (xs.take 0)) := by show Own1 _ _ _ _ _ _ _ _ _; rw [List.take_zero]; exact m2
    clear m2 H1
    go_wp2_with fail
    go_loopw [4] (fun i wr => ∃ k : Nat, k ≤ len ∧ i = .int .i64 k ∧ Own1 H (fun _ => False) w wr p 3 8 [⟨0, 0, 2, 1⟩] (xs.take k)) (fun i _ => len - (intOf i).toNat)
    case atStart => exact ⟨0, Nat.zero_le _, rfl, H2.out⟩
    case round =>
      obtain ⟨k, hk, rfl, hm⟩ := hrel
      have HM : Hid (Own1 H (fun _ => False) w wr p 3 8 [⟨0, 0, 2, 1⟩] (xs.take k)) := hm
      clear hm H2
      by_cases hkl : k < len
      · have hkI : (k : Int) < (len : Int) := by omega
        obtain ⟨g, o, rfl, hat⟩ := (HU.out.below HM.out.below).row hkl
        obtain ⟨v, hv⟩ : ∃ v, xs.getD k zpk = v := ⟨_, rfl⟩
        have HG : Hid (xs.take k ++ [v] = xs.take (k + 1)) := Hst.take_snoc (by have := HUl.out; omega) hv
        have HL : Hid ((xs.take k).length ≤ 100000) := by show _ ≤ _; rw [List.length_take]; omega
        rw [hv] at hat
        obtain ⟨vs, vd, vl, vb⟩ := v
        obtain ⟨q1, q2, q3, q4⟩ := hat
        simp only at q1 q2 q3 q4
        clear hv
        go_wp2_with fail
        refine (o_eject S HM.out hnone ⟨vs, vd, vl, vb⟩ HL.out HG.out).mono ?_
        rintro e w3 ⟨rfl, m3, _⟩
        have H3 : Hid (Own1 H (fun _ => False) w w3 p 3 8 [⟨0, 0, 2, 1⟩] (xs.take (k + 1))) := m3
        clear m3 q1 q2 q3 q4 HM
        go_wp2_with fail
        go_roundw
        case rel => exact ⟨k + 1, by omega, by go_num, H3.out⟩
        case measure => simp [intOf]; omega
      · obtain rfl : k = len := by omega
        have H3 : Hid (Own1 H (fun _ => False) w wr p 3 8 [⟨0, 0, 2, 1⟩] xs) := by
          have h1 := HM.out
          rw [List.take_of_length_le (Nat.le_of_eq HUl.out)] at h1
          exact h1
        have HL : Hid (xs.length ≤ 100000) := by show _ ≤ _; rw [HUl.out]; omega
        clear HM
        go_wp2_with fail
        refine (o_got S H3.out HL.out (m' := k) HUl.out).mono ?_
        rintro e w4 ⟨a, c, rfl, hr, m4, b4⟩
        obtain ⟨z, hz⟩ : ∃ z, wr.heap.size = z := ⟨_, rfl⟩
        rw [hz] at hr m4
        have HZ : Hid (w.heap.size ≤ z) := by show _ ≤ _; rw [← hz]; exact H3.out.below.size
        have H4 : Hid (Own1 H (fun j => False ∨ z ≤ j) w w4 p 3 8 [⟨0, 0, 2, 1⟩] xs ∧ ∃ zs, w4.ownsRow z 27 4 (.slice a k c) k zs) := ⟨m4, kcells xs, by have h1 := hr; unfold PRow at h1; rw [HUl.out] at h1; exact h1⟩
        clear hr m4 b4 hz H3
        go_wp2_with fail
        go_loopw [6] (fun i wr => ∃ j : Nat, j ≤ k ∧ i = .int .i64 j ∧ Own1 H (fun j => False ∨ z ≤ j) w wr p 3 8 [⟨0, 0, 2, 1⟩] xs ∧ ∃ zs, wr.ownsRow z 27 4 (.slice a k c) k zs) (fun i _ => k - (intOf i).toNat)
        case atStart => exact ⟨0, Nat.zero_le _, rfl, H4.out⟩
        case round =>
          obtain ⟨j, hj, rfl, hm⟩ := hrel
          have HM : Hid (Own1 H (fun j => False ∨ z ≤ j) w wr p 3 8 [⟨0, 0, 2, 1⟩] xs ∧ ∃ zs, wr.ownsRow z 27 4 (.slice a k c) k zs) := hm
          clear hm H4
          by_cases hjk : j < k
          · have hjI : (j : Int) < (k : Int) := by omega
            obtain ⟨mo, zs, hrow⟩ := HM.out
            obtain ⟨g, y, rfl, hg, hc, hf, hst⟩ := owns_place hrow hjk
            obtain ⟨zs', hrow'⟩ := hst (.int .u32 99)
            have H5 : Hid (Own1 H (fun j => False ∨ z ≤ j) w (wr.setCell ⟨g, j * 4 + 3, none⟩ (.int .u32 99)) p 3 8 [⟨0, 0, 2, 1⟩] xs ∧ ∃ zs, (wr.setCell ⟨g, j * 4 + 3, none⟩ (.int .u32 99)).ownsRow z 27 4 (.slice (some ⟨g, 0, none⟩) k c) k zs) :=
              ⟨mo.side S (Sans.of_set _ _ _ (.inr hg)) (fun i hi => hi.elim (fun e => e.elim) (fun e => Nat.le_trans HZ.out e)), zs', hrow'⟩
            clear mo hrow hrow' hst hg HM
            go_wp2_with fail
            go_roundw
            case rel => exact ⟨j + 1, by omega, by go_num, H5.out⟩
            case measure => simp [intOf]; omega
          · obtain rfl : j = k := by omega
            have H5 : Hid (Own1 H (fun j => False ∨ z ≤ j) w wr p 3 8 [⟨0, 0, 2, 1⟩] xs) := HM.out.1
            clear HM
            go_wp2_with fail
            refine (hknown_any S wr).mono ?_
            rintro e w6 ⟨rfl, b6⟩
            have H6 : Hid (Own1 H (fun j => False ∨ z ≤ j) w w6 p 3 8 [⟨0, 0, 2, 1⟩] xs) := H5.out.on S b6
            clear b6 H5
            go_wp2_with fail
            refine (o_got S H6.out HL.out (m' := j) HUl.out).mono ?_
            rintro e w7 ⟨a2, c2, rfl, hr2, m7, _⟩
            have H7 : Hid (Own1 H (fun k => (False ∨ z ≤ k) ∨ w6.heap.size ≤ k) w w7 p 3 8 [⟨0, 0, 2, 1⟩] xs) := m7
            have HR : Hid (Pks w7 a2 j xs) := hr2.pks HUl.out (by omega)
            clear hr2 m7 H6
            go_wp2_with fail
            refine (psame_leads w7 a2 b j c2 cap xs HR.out (HU.out.below H7.out.below) (by omega)).mono ?_
            rintro e w8 ⟨rfl, b8⟩
            have H8 : Hid (Own1 H (fun k => (False ∨ z ≤ k) ∨ w6.heap.size ≤ k) w w8 p 3 8 [⟨0, 0, 2, 1⟩] xs) := H7.out.on S b8
            clear b8 H7 HR
            go_wp2_with fail
            refine (o_waits S H8.out 2 (z64_small (by omega)) (c := 1) rfl).mono ?_
            rintro e w9 ⟨rfl, m9, _⟩
            have H9 : Hid (Below w.heap.size w w9) := m9.below
            clear m9 H8
            go_wp2_with fail
            go_ret
            exact ⟨rfl, H9.out⟩
end Go.Proofs.Ytfldhjeeoaplfaa
