/-
  Slices of slices of bytes: what they lead to; package shunterref04's Same and clone. Conditions: none but that the slices lead to bytes, and sizes below 2^40.
-/
import Derived.Test.YtjelfenkbngfiaaOnto2
import Derived.Deep.QuietTactic
import Derived.BigQuiet
namespace Go.Proofs.Ytjelfenkbngfiaa
open Go.ChangeShapes Go.WideShapes Go.ChangeAt Go.RowKit
set_option linter.unusedVariables false

structure RowV where
  a : Option Addr
  len : Nat
  cap : Nat
  l : List Nat
def zrow : RowV := ⟨none, 0, 0, []⟩
def RowV.val (r : RowV) : Value := .slice r.a r.len r.cap
def RowV.ok (w : World) (r : RowV) : Prop := Octs w r.a r.len r.l ∧ (r.a = none → r.len = 0 ∧ r.cap = 0)
/-- the slice leads to the rows rs -/
def Lines (w : World) (a : Option Addr) (len : Nat) (rs : List RowV) : Prop :=
  rs.length = len ∧ len ≤ 1000000 ∧ (len = 0 ∨ ∃ b off, a = some ⟨b, off, none⟩ ∧ b < w.heap.size ∧ ∀ j, j < len → w.cell? ⟨b, off + j, none⟩ = some (.slice (rs.getD j zrow).a (rs.getD j zrow).len (rs.getD j zrow).cap)) ∧ ∀ r ∈ rs, r.ok w
def texts (rs : List RowV) : List (List Nat) := rs.map (·.l)
theorem RowV.ok.below {w w' : World} {r : RowV} (h : r.ok w) (k : Below w.heap.size w w') : r.ok w' := ⟨h.1.below k, h.2⟩
theorem Lines.below {w w' : World} {a : Option Addr} {len : Nat} {rs : List RowV} (h : Lines w a len rs) (k : Below w.heap.size w w') : Lines w' a len rs := by
  obtain ⟨h1, h2, h3, h4⟩ := h
  refine ⟨h1, h2, ?_, fun r hr => (h4 r hr).below k⟩
  rcases h3 with h3 | ⟨b, off, ha, hlt, hc⟩
  · exact .inl h3
  · exact .inr ⟨b, off, ha, Nat.lt_of_lt_of_le hlt k.size, fun j hj => (k.cell (p := ⟨b, off + j, none⟩) hlt).trans (hc j hj)⟩
theorem Lines.at {w : World} {a : Option Addr} {len : Nat} {rs : List RowV} (h : Lines w a len rs) {j : Nat} (hj : j < len) :
    ∃ b off, a = some ⟨b, off, none⟩ ∧ b < w.heap.size ∧ w.cell? ⟨b, off + j, none⟩ = some (.slice (rs.getD j zrow).a (rs.getD j zrow).len (rs.getD j zrow).cap) ∧ (rs.getD j zrow).ok w := by
  rcases h.2.2.1 with h0 | ⟨b, off, ha, hlt, hc⟩
  · omega
  · refine ⟨b, off, ha, hlt, hc j hj, h.2.2.2 _ ?_⟩
    rw [List.getD_eq_getElem?_getD, List.getElem?_eq_getElem (by rw [h.1]; exact hj)]
    exact List.getElem_mem _
theorem Below.drewN' {B : Nat} {a w : World} (h : Below B a w) (n : Nat) : Below B a (w.drewN n) := ⟨h.os, h.tape, h.output, h.size, h.block⟩
theorem drewN_below (w : World) (n : Nat) : Below w.heap.size w (w.drewN n) := Below.drewN' (Below.refl _ _) n

theorem ofNat_inj {a b : Nat} (ha : a < 256) (hb : b < 256) (h : UInt8.ofNat a = UInt8.ofNat b) : a = b := by
  have := congrArg UInt8.toNat h
  simp at this
  omega
theorem map_inj : ∀ {l m : List Nat}, Crc.Oct l → Crc.Oct m → l.map UInt8.ofNat = m.map UInt8.ofNat → l = m := by
  intro l
  induction l with
  | nil => intro m _ _ h; cases m with
    | nil => rfl
    | cons => cases h
  | cons c l ih =>
    intro m hl hm h
    cases m with
    | nil => cases h
    | cons d m =>
      simp only [List.map_cons, List.cons.injEq] at h
      rw [ofNat_inj hl.head hm.head h.1, ih hl.tail hm.tail h.2]
theorem strOf_list (l : List Nat) : (strOf l).toList = l.map UInt8.ofNat := by unfold strOf; simp
theorem str_beq {l m : List Nat} (hl : Crc.Oct l) (hm : Crc.Oct m) : ((strOf l).toList == (strOf m).toList) = decide (l = m) := by
  rw [strOf_list, strOf_list]
  by_cases h : l = m
  · subst h; simp
  · have : ¬ l.map UInt8.ofNat = m.map UInt8.ofNat := fun e => h (map_inj hl hm e)
    simp only [h, decide_false, beq_eq_false_iff_ne, ne_eq, this, not_false_eq_true]

theorem texts_take {rs : List RowV} {k : Nat} (h : k < rs.length) : texts (rs.take (k + 1)) = texts (rs.take k) ++ [(rs.getD k zrow).l] := by
  unfold texts
  rw [List.take_succ_eq_append_getElem h, List.map_append]
  congr 1
  simp [List.getD_eq_getElem?_getD, h]
theorem texts_ne {rs ss : List RowV} {k : Nat} (h : k < rs.length) (h2 : k < ss.length) (hne : (rs.getD k zrow).l ≠ (ss.getD k zrow).l) : texts rs ≠ texts ss := by
  intro e
  have := congrArg (fun l => l[k]?) e
  simp only [texts, List.getElem?_map, List.getElem?_eq_getElem h, List.getElem?_eq_getElem h2, Option.map_some, Option.some.injEq] at this
  apply hne
  simpa [List.getD_eq_getElem?_getD, h, h2] using this

set_option maxHeartbeats 1000000 in
theorem same_any (a1 a2 : Option Addr) (n1 c1 n2 c2 : Nat) (rs ss : List RowV) (w : World) (h1 : Lines w a1 n1 rs) (h2 : Lines w a2 n2 ss) :
    Calls Try.prog 23 #[.slice a1 n1 c1, .slice a2 n2 c2] w fun e w' => e = .returned (.bool (decide (texts rs = texts ss))) ∧ ∃ n, w' = w.drewN n := by
  have H1 : Hid (Lines w a1 n1 rs) := h1
  have H2 : Hid (Lines w a2 n2 ss) := h2
  have hm1 := h1.2.1
  have hm2 := h2.2.1
  clear h1 h2
  by_cases hn : n1 = n2
  · subst hn
    go_enter Try.func23, Try.ntmps23
    go_wp2
    go_loopw [5] (fun i wr => ∃ k n : Nat, k ≤ n1 ∧ i = .int .i64 k ∧ wr = w.drewN n ∧ texts (rs.take k) = texts (ss.take k)) (fun i _ => n1 - (intOf i).toNat)
    case atStart => exact ⟨0, 0, Nat.zero_le _, rfl, rfl, rfl⟩
    case round =>
      obtain ⟨k, n, hk, rfl, rfl, htx⟩ := hrel
      have HT : Hid (texts (rs.take k) = texts (ss.take k)) := htx
      clear htx
      by_cases hkl : k < n1
      · obtain ⟨b1, off1, rfl, hlt1, hc1, hok1⟩ := H1.out.at hkl
        obtain ⟨b2, off2, rfl, hlt2, hc2, hok2⟩ := H2.out.at hkl
        have k1 := fun m : Nat => str_run (cap := (rs.getD k zrow).cap) (hok1.1.below (drewN_below w m))
        have k2 := fun m : Nat => str_run (cap := (ss.getD k zrow).cap) (hok2.1.below (drewN_below w m))
        have hb := str_beq hok1.1.2.2.1 hok2.1.2.2.1
        obtain ⟨r, hr⟩ : ∃ r, rs.getD k zrow = r := ⟨_, rfl⟩
        obtain ⟨s, hs⟩ : ∃ s, ss.getD k zrow = s := ⟨_, rfl⟩
        rw [hr] at hc1 k1 hb
        rw [hs] at hc2 k2 hb
        have HR : Hid (rs.getD k zrow = r ∧ ss.getD k zrow = s) := ⟨hr, hs⟩
        clear hok1 hok2 hr hs
        obtain ⟨ra, rl, rc, rt⟩ := r
        obtain ⟨sa, sl, sc, st⟩ := s
        simp only at hc1 hc2 k1 k2 hb
        obtain ⟨S1, hS1⟩ : ∃ S, S = strOf rt := ⟨_, rfl⟩
        obtain ⟨S2, hS2⟩ : ∃ S, S = strOf st := ⟨_, rfl⟩
        simp only [← hS1] at k1
        simp only [← hS2] at k2
        rw [← hS1, ← hS2] at hb
        have HB : Hid ((S1.toList == S2.toList) = decide (rt = st)) := hb
        clear hb hS1 hS2
        have i1 : (0 : Int) ≤ k := by omega
        have i2 : (k : Int) < n1 := by omega
        by_cases he : rt = st
        · have he1 : (S1.toList == S2.toList) = true := by rw [HB.out]; exact decide_eq_true he
          have he2 : (S1.toList != S2.toList) = false := by rw [bne, he1]; rfl
          have HE : Hid (rt = st) := he
          clear he
          go_wp2_with fail
          go_quiet (fail)
          go_wp2_with fail
          go_roundw
          case rel => exact ⟨k + 1, n + nq, by omega, by go_num, rfl, by rw [texts_take (by rw [H1.out.1]; exact hkl), texts_take (by rw [H2.out.1]; exact hkl), HT.out, HR.out.1, HR.out.2]; exact congrArg (fun z => texts (ss.take k) ++ [z]) HE.out⟩
          case measure => simp [intOf]; omega
        · have he1 : (S1.toList == S2.toList) = false := by rw [HB.out]; exact decide_eq_false he
          have he2 : (S1.toList != S2.toList) = true := by rw [bne, he1]; rfl
          have HE : Hid (rt ≠ st) := he
          clear he
          go_wp2_with fail
          go_quiet (fail)
          go_wp2_with fail
          go_ret
          refine ⟨ret_bool (decide_eq_false ?_).symm, n + nq, by rw [World.drewN_drewN]⟩
          refine texts_ne (k := k) (by rw [H1.out.1]; exact hkl) (by rw [H2.out.1]; exact hkl) ?_
          rw [HR.out.1, HR.out.2]
          exact HE.out
      · obtain rfl : k = n1 := by omega
        go_wp2_with fail
        go_ret
        refine ⟨ret_bool (decide_eq_true ?_).symm, n, rfl⟩
        have := HT.out
        rwa [List.take_of_length_le (by rw [H1.out.1]; exact Nat.le_refl _), List.take_of_length_le (by rw [H2.out.1]; exact Nat.le_refl _)] at this
  · have hb : ((n1 : Int) != (n2 : Int)) = true := by simp; omega
    have HN : Hid (n1 ≠ n2) := hn
    clear hn
    go_enter Try.func23, Try.ntmps23
    go_wp2_with fail
    go_ret
    refine ⟨ret_bool (decide_eq_false ?_).symm, 0, rfl⟩
    intro e
    have := congrArg List.length e
    simp only [texts, List.length_map, H1.out.1, H2.out.1] at this
    exact HN.out this
set_option maxHeartbeats 400000 in
theorem clone_any (a : Option Addr) (len cap : Nat) (l : List Nat) (w : World) (h : Octs w a len l) (hn : a = none → len = 0 ∧ cap = 0) (hl : len ≤ 1000000) :
    Calls Try.prog 27 #[.slice a len cap] w fun e w' => ∃ a' cap', e = .returned (.slice a' len cap') ∧ Own w' w.heap.size a' len cap' l ∧ Below w.heap.size w w' := by
  have HO : Hid (Octs w a len l) := h
  have HN : Hid (a = none → len = 0 ∧ cap = 0) := hn
  clear h hn
  go_enter Try.func27, Try.ntmps27
  go_wp2_with (at_builtin; refine wpList_append_bytes rfl _ _ rfl w.heap.size none 0 0 [] rfl (Own.empty _ _) a len cap l rfl HO.out HN.out (by omega) (Nat.le_refl _) len (by omega) l rfl ?_; intro a' cap' w' hown hb)
  go_ret
  exact ⟨a', cap', rfl, hown, hb⟩
end Go.Proofs.Ytjelfenkbngfiaa
