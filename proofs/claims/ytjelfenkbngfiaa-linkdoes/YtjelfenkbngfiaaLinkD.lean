/-
  Package link, as it landed: what All comes to; and that the package is what LinkSpec says. Conditions: none.
-/
import Derived.Test.YtjelfenkbngfiaaLinkC
import Derived.Deep.OwnRows
namespace Go.Proofs.Ytjelfenkbngfiaa
open Go.ChangeShapes Go.WideShapes Go.ChangeAt Go.RowKit
set_option linter.unusedVariables false

theorem take_set_snoc {xs : List Value} {k : Nat} (v : Value) (h : k < xs.length) : (xs.set k v).take (k + 1) = xs.take k ++ [v] := by
  rw [List.take_succ_eq_append_getElem (by rw [List.length_set]; exact h), List.getElem_set_self, List.take_set_of_le (by omega)]
/-- the rows that All has laid so far, behind block G -/
structure Laying (w wr : World) (n k : Nat) (rs ss : List RowV) : Prop where
  lt : k ≤ n
  len : ss.length = k
  txt : texts ss = texts (rs.take k)
  bel : Below w.heap.size w wr
  own : ∃ xs, wr.ownsRow 0 29 1 (.slice (some ⟨w.heap.size, 0, none⟩) n n) n xs ∧ xs.take k = ss.map RowV.val
  rows : ∀ r ∈ ss, Own wr (w.heap.size + 1) r.a r.len r.cap r.l
theorem Laying.next {w wr u : World} {n k : Nat} {rs ss : List RowV} {a' : Option Addr} {len c' : Nat} {l : List Nat} (h : Laying w wr n k rs ss) (hk : k < n) (hn : rs.length = n) (hr : (rs.getD k zrow).l = l) (o : Own u wr.heap.size a' len c' l) (b : Below wr.heap.size wr u) :
    Laying w (u.setCell ⟨w.heap.size, k, none⟩ (.slice a' len c')) n (k + 1) rs (ss ++ [⟨a', len, c', l⟩]) := by
  obtain ⟨xs, hx, ht⟩ := h.own
  have hG : w.heap.size < wr.heap.size := (hx.lt w.heap.size rfl).2
  have hxl := hx.1
  have hu : u.ownsRow 0 29 1 (.slice (some ⟨w.heap.size, 0, none⟩) n n) n xs := owns_lift hx (Sans.of_below (F := fun _ => False) b) (fun _ _ e => e)
  have SS : Sans (fun j => j = w.heap.size) u (u.setCell ⟨w.heap.size, k, none⟩ (.slice a' len c')) := Sans.of_set u ⟨w.heap.size, k, none⟩ _ rfl
  refine ⟨hk, by rw [List.length_append, h.len]; rfl, ?_, ?_, ⟨xs.set k (.slice a' len c'), (hu.stored k _).1, ?_⟩, ?_⟩
  · rw [texts_take (by omega), ← h.txt, hr]
    simp [texts]
  · exact h.bel.trans ((b.mono (Nat.le_of_lt hG)).trans (SS.below (by have := b.size; omega) (fun j hj => by omega)))
  · rw [take_set_snoc _ (by omega), ht, List.map_append]
    rfl
  · have key : ∀ r : RowV, Own u (w.heap.size + 1) r.a r.len r.cap r.l → Own (u.setCell ⟨w.heap.size, k, none⟩ (.slice a' len c')) (w.heap.size + 1) r.a r.len r.cap r.l := by
      intro r hr
      refine hr.sans SS (fun ad e hh => ?_)
      rcases hr.shape with ⟨e2, _⟩ | ⟨g', e2, hb, _⟩
      · rw [e2] at e; cases e
      · rw [e2] at e; cases e; simp only at hh; omega
    intro r hr
    rcases List.mem_append.1 hr with hr | hr
    · exact key r ((h.rows r hr).below b)
    · rw [List.mem_singleton] at hr
      subst hr
      refine key _ ?_
      refine ⟨⟨o.1.1, ?_⟩, o.2⟩
      rcases o.1.2 with h2 | ⟨g, cp, cur, e, hb, r⟩
      · exact .inl h2
      · exact .inr ⟨g, cp, cur, e, by omega, r⟩
theorem Laying.told {w wr : World} {n : Nat} {rs ss : List RowV} (h : Laying w wr n n rs ss) (hn : rs.length = n) (hm : n ≤ 64) : Told w wr (some ⟨w.heap.size, 0, none⟩) n ss ∧ texts ss = texts rs := by
  obtain ⟨xs, hx, ht⟩ := h.own
  have hxl := hx.1
  rw [List.take_of_length_le (by omega)] at ht
  have ho : OwnL wr (some ⟨w.heap.size, 0, none⟩) n ss := by
    unfold OwnL
    rw [h.len, ← ht]
    exact hx
  refine ⟨⟨?_, fun ad e => by cases e; exact Nat.le_refl _, ?_⟩, by rw [h.txt, List.take_of_length_le (by omega)]⟩
  · have := ho.lines (by rw [h.len]; omega) (fun r hr => ⟨(h.rows r hr).octs, (h.rows r hr).nilled⟩)
    rwa [h.len] at this
  · intro r hr ad e
    have hro := h.rows r hr
    rcases hro.shape with ⟨e2, _⟩ | ⟨g', e2, hb, _⟩
    · rw [e2] at e; cases e
    · rw [e2] at e
      cases e
      refine ⟨by simp only; omega, fun j => ?_, fun ah eh => by cases eh; simp only; omega⟩
      rw [e2] at hro
      exact hro.frozen j
set_option maxHeartbeats 1000000 in
theorem linkAll (p room : Nat) (F : Nat → Prop) (rs : List RowV) (a : Option Addr) (cap : Nat) (w : World) (h : LinkAt w F p room rs a cap) :
    Calls Try.prog 13 #[.pointer (some ⟨p, 0, none⟩)] w fun e w' => ∃ ss, e = .returned (.slice (some ⟨w.heap.size, 0, none⟩) rs.length rs.length) ∧ Told w w' (some ⟨w.heap.size, 0, none⟩) rs.length ss ∧ texts ss = texts rs ∧ Below w.heap.size w w' := by
  have HR : Hid (LinkAt w F p room rs a cap) := h
  have hc1 := h.c1
  have hp := h.foot p h.self
  obtain ⟨n, hn⟩ : ∃ n, rs.length = n := ⟨_, rfl⟩
  have HN : Hid (rs.length = n) := hn
  have hr := h.room1
  rw [hn] at hc1 hr ⊢
  have hm : n ≤ 64 := by omega
  have hmk := run_make_row' (P := Try.prog) 27 29 (.slice none 0 0) 24 Try.underlying27 infoL rfl .i64 .i64 n (by omega) (by omega)
  have HL : Hid (Laying w (w.alloc (.cells (madeCells #[.slice none 0 0] n) 29)) n 0 rs []) :=
    ⟨Nat.zero_le _, rfl, rfl, fresh _ _, ⟨_, World.ownsRow_lit w (madeCells #[.slice none 0 0] n) n (Nat.zero_le _) (by unfold maxLen; omega) (by rw [size_madeCells]; omega), rfl⟩, fun r hr => by cases hr⟩
  have hc1' : (w.alloc (.cells (madeCells #[.slice none 0 0] n) 29)).cell? ⟨p, 1, none⟩ = some (.slice a n cap) := ((fresh w _).cell (p := ⟨p, 1, none⟩) hp).trans hc1
  clear h hn hr
  go_enter Try.func13, Try.ntmps13
  go_wp2_with fail
  go_loopw [17] (fun i wr => ∃ k : Nat, ∃ ss : List RowV, i = .int .i64 k ∧ Laying w wr n k rs ss) (fun i _ => n - (intOf i).toNat)
  case atStart => exact ⟨0, [], rfl, HL.out⟩
  case round =>
    obtain ⟨k, ss, rfl, hlay⟩ := hrel
    have hk := hlay.lt
    have HY : Hid (Laying w wr n k rs ss) := hlay
    clear hlay
    by_cases hkl : k < n
    · obtain ⟨g, rfl, hg, hcap⟩ := HR.out.some (by rw [HN.out]; omega)
      have hat := HR.out.below HY.out.bel
      have hci := hat.own.at (j := k) (by rw [HN.out]; exact hkl)
      obtain ⟨hro, hrl, _⟩ := hat.rows _ (getD_mem_rows (rs := rs) (j := k) (by rw [HN.out]; exact hkl))
      obtain ⟨r, hr⟩ : ∃ r, rs.getD k zrow = r := ⟨_, rfl⟩
      have HRr : Hid (rs.getD k zrow = r) := hr
      rw [hr] at hci hro hrl
      obtain ⟨ra, rl, rc, rt⟩ := r
      simp only at hci hro hrl
      have HO : Hid (Own wr 0 ra rl rc rt) := hro
      clear hr hro hat
      have hi2 : (k : Int) < n := by omega
      go_wp2_with fail
      refine (bclone_any ra rl rc rt _ HO.out.octs HO.out.nilled hrl).mono ?_
      rintro e u ⟨a', c', rfl, o1, b1⟩
      obtain ⟨xs, hx, _⟩ := HY.out.own
      have hu : u.ownsRow 0 29 1 (.slice (some ⟨w.heap.size, 0, none⟩) n n) n xs := owns_lift hx (Sans.of_below (F := fun _ => False) b1) (fun _ _ e => e)
      have hxl : xs.length = n := by have := hx.1; omega
      obtain ⟨v, hv⟩ : ∃ v, u.cell? ⟨w.heap.size, k, none⟩ = some v := ⟨_, (owns_cells hu hkl).trans (List.getElem?_eq_getElem (by omega))⟩
      have hf : u.frozen? ⟨w.heap.size, k, none⟩ = false := hu.frozenAt k
      have HB : Hid (Own u wr.heap.size a' rl c' rt ∧ Below wr.heap.size wr u) := ⟨o1, b1⟩
      clear hx hu hxl o1 b1
      go_wp2_with fail
      go_roundw
      case rel => exact ⟨k + 1, _, by go_num, HY.out.next hkl HN.out (by rw [HRr.out]) HB.out.1 HB.out.2⟩
      case measure => simp [intOf]; omega
    · obtain rfl : k = n := by omega
      go_wp2_with fail
      go_ret
      obtain ⟨t1, t2⟩ := HY.out.told HN.out hm
      exact ⟨ss, rfl, t1, t2, HY.out.bel⟩
end Go.Proofs.Ytjelfenkbngfiaa
