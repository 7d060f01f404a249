/-
  For every slice of bytes, the law PoolLast of package shunterlaw07 returns true and leaves its argument as it was. Conditions: none.
-/
import Derived.Test.YtmfjalnlfcbdlaaPoolD
import Derived.Test.YtmfjalnlfcbdlaaRows
import Derived.WalkKit
import Derived.ProofKit
import Derived.OpenShut
import Derived.ShutString
import Derived.ChangeOld
import Derived.Below
namespace Go.Proofs.Ytmfjalnlfcbdlaa.poolLast
open Go.ChangeShapes Go.WideShapes Go.ChangeAt Go.RowKit
open Go.ChangeMaps (open_string shut_string)
set_option linter.unusedVariables false

theorem own : ownKnob Try.prog.godebug = none := by kernel_rfl
theorem laidOut : laidOutB Try.prog = true := by kernel_rfl

/-- WHAT THE WALK IS TOLD OF A SLICE OF INTEGERS THAT CAME IN: it is nil; or it leads to a row of 'cap' cells, the numbers 'zs' (the first 'len' are its elements, the rest its spare room), each fitting its kind. -/
def IsRow (k : IntKind) (w : World) (a : Option Addr) (len cap : Nat) (zs : List Int) : Prop :=
  (a = none ∧ len = 0 ∧ cap = 0 ∧ zs = []) ∨
  ∃ x, a = some x ∧ len ≤ cap ∧ cap ≤ maxLen ∧ zs.length = cap ∧ (∀ i, i < zs.length → w.cell? (x.add i) = some (.int k (zs.getD i 0))) ∧ ∀ n ∈ zs, (Lit.int k n).wf = true

/-- what was emptied, in a row of the call's own, is the pool's own order -/
structure Ordered (w wr : World) (p : Nat) (S : List (Option Pk)) (O : List Nat) (ao : Option Addr) (m cap : Nat) : Prop where
  len : O.length = m
  own : wr.ownsRow 0 3 1 (.slice ao m cap) m (ints O)
  lt : ∀ j, blk ao j → j < wr.heap.size
  new : ∀ j, blk ao j → w.heap.size ≤ j
  mine : Mine (blk ao) w wr p 20 S O
theorem Ordered.le {w wr : World} {p : Nat} {S : List (Option Pk)} {O : List Nat} {ao : Option Addr} {m cap : Nat} (h : Ordered w wr p S O ao m cap) : m ≤ 20 := by have := h.mine.inv.le; rw [h.len] at this; exact this
theorem Ordered.next {w wr u3 u5 : World} {p : Nat} {S S' : List (Option Pk)} {O : List Nat} {ao : Option Addr} {m cap K g cap' : Nat} {X : Obj} (h : Ordered w wr p S O ao m cap) (m3 : Mine (blk ao) w u3 p 20 S' (O ++ [K])) (hown : u5.ownsRow 0 3 1 (.slice (some ⟨g, 0, none⟩) (m + 1) cap') (m + 1) (ints (O ++ [K]))) (hS : Sans (blk ao) (u3.alloc X) u5) (hg : blk ao g ∨ g = (u3.alloc X).heap.size) : Ordered w u5 p S' (O ++ [K]) (some ⟨g, 0, none⟩) (m + 1) cap' := by
  have hz : w.heap.size ≤ (u3.alloc X).heap.size := by have := m3.below.size; simp; omega
  refine ⟨by rw [List.length_append, h.len]; rfl, hown, fun j hj => ?_, fun j hj => ?_, ?_⟩
  · rw [blk_some hj]; exact (hown.lt g rfl).2
  · rw [blk_some hj]
    rcases hg with e | e
    · exact h.new g e
    · omega
  · have m4 := (m3.on (fresh u3 X)).wider (G' := fun j => blk ao j ∨ (u3.alloc X).heap.size ≤ j) (fun j hj => hj)
    have m5 := m4.side (hS.mono (fun j e => .inl e)) (fun j hj => hj.elim (h.new j) (fun e => by omega))
    exact m5.wider (fun j hj => by rw [blk_some hj]; exact .inl (hg.imp id (fun e => by omega)))
set_option maxRecDepth 100000 in
set_option maxHeartbeats 1000000 in
theorem walk (a0 : Option Addr) (len0 cap0 : Nat) (z0 : List Int) (w : World) (w0 : IsRow .u8 w a0 len0 cap0 z0) :
    Calls Try.prog 8 #[.slice a0 len0 cap0] w fun e w' => e = .returned (.bool true) ∧ Below w.heap.size w w' := by
  obtain ⟨l, hl⟩ : ∃ l, Octs w a0 len0 l := ⟨_, octs_of w0⟩
  have HL : Hid (Octs w a0 len0 l) := hl
  have hlm := hl.2.1
  clear hl w0
  by_cases hb : 20 < len0
  · go_enter Try.func8, Try.ntmps8
    go_wp2_with fail
    refine (m_new (w0 := w) 20 (by omega) (Below.refl _ _) (G := fun _ => False) nothing).mono ?_
    rintro e u1 ⟨p, rfl, m1, _⟩
    have H1 : Hid (Solo w u1 p 20 (none_ 20) (down 20)) := m1
    clear m1
    go_wp2_with fail
    refine (known_any _).mono ?_
    rintro e u2 ⟨rfl, b2⟩
    go_wp2_with fail
    go_ret
    exact ⟨rfl, (H1.out.on b2).below⟩
  · go_enter Try.func8, Try.ntmps8
    go_wp2_with fail
    refine (m_new (w0 := w) 20 (by omega) (Below.refl _ _) (G := fun _ => False) nothing).mono ?_
    rintro e u1 ⟨p, rfl, m1, _⟩
    have H1 : Hid (Solo w u1 p 20 (none_ 20) (down 20)) := m1
    clear m1
    go_wp2_with fail
    go_loopw [4] (fun i wr => ∃ (k : Nat) (S : List (Option Pk)), k ≤ 20 ∧ i = .int .i64 k ∧ Solo w wr p 20 S (up 20 k)) (fun i _ => 20 - (intOf i).toNat)
    case atStart => exact ⟨0, _, by omega, rfl, by rw [up_zero]; exact H1.out⟩
    case round =>
      obtain ⟨k, S, hk, rfl, hm⟩ := hrel
      have HM : Hid (Solo w wr p 20 S (up 20 k)) := hm
      clear hm H1
      by_cases hkl : k < 20
      · have HM1 : Hid (Solo w wr p 20 S (up 20 (k + 1) ++ [k])) := by
          have := HM.out
          rw [up_snoc (by omega)] at this
          exact this
        have hkl2 : (k : Int) < 20 := by omega
        clear HM
        go_wp2_with fail
        refine (m_put_some HM1.out nothing 0 0 0 k).mono ?_
        rintro e u2 ⟨rfl, m2, _⟩
        have HM2 : Hid (Solo w u2 p 20 (S.set k (some ⟨0, 0, 0, k⟩)) (up 20 (k + 1))) := m2
        clear m2 HM1
        go_wp2_with fail
        go_roundw
        case rel => exact ⟨k + 1, _, by omega, by go_num, HM2.out⟩
        case measure => simp [intOf]; omega
      · obtain rfl : k = 20 := by omega
        have HM1 : Hid (Solo w wr p 20 S []) := by
          have := HM.out
          rw [up_full] at this
          exact this
        clear HM
        go_wp2_with fail
        go_loopw [5, 6, 7] (fun v i _ wr => ∃ (k : Nat) (S : List (Option Pk)) (O : List Nat) (ao : Option Addr) (m cap : Nat), k ≤ len0 ∧ i = .int .i64 k ∧ v = .slice ao m cap ∧ Ordered w wr p S O ao m cap) (fun _ i _ _ => len0 - (intOf i).toNat)
        case atStart => exact ⟨0, S, [], none, 0, 0, Nat.zero_le _, rfl, rfl, rfl, World.ownsRow_nil _ _ _ _, (fun j hj => by obtain ⟨ad, e, _⟩ := hj; cases e), (fun j hj => by obtain ⟨ad, e, _⟩ := hj; cases e), HM1.out.wider (fun j hj => by obtain ⟨ad, e, _⟩ := hj; cases e)⟩
        case round =>
          obtain ⟨k, S1, O, ao, m, cap, hk1, rfl, rfl, ho⟩ := hrel
          have HO : Hid (Ordered w wr p S1 O ao m cap) := ho
          have hm20 := ho.le
          clear ho HM1
          by_cases hkl : k < len0
          · obtain ⟨b, off, c, rfl, hc8, hcw⟩ := HL.out.byte hkl
            have hcc := (HO.out.mine.below.cell (p := ⟨b, off + k, none⟩) (cell_lt hcw)).trans hcw
            obtain ⟨K, hK⟩ : ∃ K : Nat, (c : Int) % 20 = K := ⟨c % 20, by omega⟩
            have hK20 : K < 20 := by omega
            cases hlk : look S1 K with
            | none =>
              have HK : Hid (look S1 K = none) := hlk
              clear hlk
              go_wp2_with fail
              refine (m_drop_no HO.out.mine (by omega) HK.out).mono ?_
              rintro e u3 ⟨rfl, rfl⟩
              go_wp2_with fail
              go_roundw
              case rel => first | exact ⟨k + 1, S1, O, ao, m, cap, by omega, by go_num, rfl, HO.out⟩ | ((repeat apply Exists.intro); exact ⟨⟨k + 1, S1, O, ao, m, cap, by omega, by go_num, rfl, HO.out⟩, rfl⟩)
              case measure => simp [intOf]; omega
            | some x =>
              have HK : Hid (S1[K]? = some (some x)) := by
                obtain ⟨K', e, _, h⟩ := look_is hlk
                obtain rfl : K = K' := by omega
                exact h
              clear hlk
              go_wp2_with fail
              refine (m_drop_yes HO.out.mine HO.out.lt HK.out).mono ?_
              rintro e u3 ⟨rfl, m3, s3⟩
              have ho3 : u3.ownsRow 0 3 1 (.slice ao m cap) m (ints O) := owns_lift HO.out.own s3 (fun ad e h => h ⟨ad, e, rfl⟩)
              have HO3 : Hid (u3.ownsRow 0 3 1 (.slice ao m cap) m (ints O)) := ho3
              have HM3 : Hid (Mine (blk ao) w u3 p 20 (S1.set K none) (O ++ [K])) := m3
              clear ho3 m3 s3 hcc
              go_wp2_with (at_builtin; refine wpList_append_int rfl _ _ rfl ao m cap O rfl (HO3.out.alloc _) K _ 1 rfl (one_cell u3 K) (by omega) ?_; intro g cap' u5 hown hS hg)
              have HN : Hid (Ordered w u5 p (S1.set K none) (O ++ [K]) (some ⟨g, 0, none⟩) (m + 1) cap') := HO.out.next HM3.out hown hS hg
              clear hown hS hg HO3 HM3 HO
              go_wp2_with fail
              go_roundw
              case rel => first | exact ⟨k + 1, _, _, _, _, _, by omega, by go_num, rfl, HN.out⟩ | ((repeat apply Exists.intro); exact ⟨⟨k + 1, _, _, _, _, _, by omega, by go_num, rfl, HN.out⟩, rfl⟩)
              case measure => simp [intOf]; omega
          · go_wp2_with fail
            go_loopw [8, 9, 10] (fun i _ _ v => ∃ (j : Nat) (S2 : List (Option Pk)), j ≤ m ∧ i = .int .i64 ((j : Int) - 1) ∧ v.ownsRow 0 3 1 (.slice ao m cap) m (ints O) ∧ Sans (fun k => ¬ blk ao k) wr v ∧ Mine (blk ao) w v p 20 S2 (O.take j)) (fun i _ _ _ => (intOf i + 1).toNat)
            case atStart => exact ⟨m, S1, Nat.le_refl _, rfl, HO.out.own, Sans.refl _ _, by rw [List.take_of_length_le (by rw [HO.out.len]; omega)]; exact HO.out.mine⟩
            case round =>
              obtain ⟨j, S2, hj, rfl, hown, hsan, hmine⟩ := hrel
              have HW2 : Hid (wr.ownsRow 0 3 1 (.slice ao m cap) m (ints O)) := hown
              have HM2 : Hid (Mine (blk ao) w wr p 20 S2 (O.take j)) := hmine
              have HS2 : Hid (∀ g, blk ao g → g < wr.heap.size) := fun g hg => Nat.lt_of_lt_of_le (HO.out.lt g hg) hsan.size
              have HN2 : Hid (Sans (fun k => ¬ blk ao k) _ wr) := hsan
              clear hown hsan hmine
              by_cases hj0 : j = 0
              · subst hj0
                have HM3 : Hid (Mine (blk ao) w wr p 20 S2 []) := by have := HM2.out; rwa [List.take_zero] at this
                clear HM2
                go_wp2_with fail
                refine (m_put_none HM3.out 0 0 0 0).mono ?_
                rintro e u6 ⟨rfl, m6, _⟩
                have H6 : Hid (Mine (blk ao) w u6 p 20 S2 []) := m6
                clear m6 HM3
                go_wp2_with fail
                refine (known_any _).mono ?_
                rintro e u7 ⟨rfl, b7⟩
                go_wp2_with fail
                go_ret
                exact ⟨rfl, (H6.out.on b7).below⟩
              · obtain ⟨i, rfl⟩ : ∃ i, j = i + 1 := ⟨j - 1, by omega⟩
                obtain ⟨K, hK⟩ : ∃ K, O[i]? = some K := ⟨O[i]'(by rw [HO.out.len]; omega), List.getElem?_eq_getElem (by rw [HO.out.len]; omega)⟩
                have HM3 : Hid (Mine (blk ao) w wr p 20 S2 (O.take i ++ [K])) := by
                  have := HM2.out
                  rw [List.take_add_one, hK] at this
                  exact this
                have HK : Hid (O[i]? = some K) := hK
                obtain ⟨g, rfl⟩ : ∃ g, ao = some ⟨g, 0, none⟩ := by
                  rcases HW2.out.2 with ⟨e, e2⟩ | ⟨g, cp, cur, e, _⟩
                  · omega
                  · simp only [Value.slice.injEq] at e; exact ⟨g, e.1⟩
                have hji : ((i + 1 : Nat) : Int) - 1 = i := by omega
                have him : (i : Int) < m := by omega
                clear HM2 hK
                go_wp2_with fail
                refine (m_put_some HM3.out HS2.out 0 0 0 0).mono ?_
                rintro e u6 ⟨rfl, m6, s6⟩
                have ho6 : u6.ownsRow 0 3 1 (.slice (some ⟨g, 0, none⟩) m cap) m (ints O) := owns_lift HW2.out s6 (fun ad e h => h ⟨ad, e, rfl⟩)
                have hc6 : u6.cell? ⟨g, i, none⟩ = some (.int .i64 K) := (owns_cells ho6 (by omega)).trans (ints_at HK.out)
                have H6 : Hid (Mine (blk (some ⟨g, 0, none⟩)) w u6 p 20 (S2.set K (some ⟨0, 0, 0, 0⟩)) (O.take i) ∧ u6.ownsRow 0 3 1 (.slice (some ⟨g, 0, none⟩) m cap) m (ints O) ∧ Sans (fun k => ¬ blk (some ⟨g, 0, none⟩) k) _ u6) := ⟨m6, ho6, HN2.out.then s6⟩
                clear m6 s6 ho6 HM3 HW2 HN2 HS2
                go_wp2_with fail
                go_roundw
                case rel => first | exact ⟨i, _, by omega, by go_num, H6.out.2.1, H6.out.2.2, H6.out.1⟩ | ((repeat apply Exists.intro); exact ⟨⟨i, _, by omega, by go_num, H6.out.2.1, H6.out.2.2, H6.out.1⟩, rfl⟩)
                case measure => simp [intOf]

set_option maxRecDepth 100000 in
theorem lifted (os : Os) (started : os.Started) (H : Type) (enc : TypeId × Value → H) :
    ReturnsInHanded {} Try.checked os 8 .any (Rows.poolLastSpec.pre6 enc Try.prog Try.f8 Rows.poolLastRow.domain false) (Rows.poolLastSpec.post enc Try.prog Try.f8 false true false false) := by
  refine returnsInHanded_of_change (C := Try.checked) own started (by kernel_rfl) Try.func8
    (ChangeSpec.witness6 (enc := enc) (C := Try.checked) false ⟨#[], #[.slice none 0 0], []⟩ 8 (by kernel_rfl) (by kernel_rfl) (by kernel_rfl) (by kernel_rfl)) ?_
  intro W base args ds gs before hval0 hW hcnd _
  have hval : ∀ (j : Nat) t v, Try.f8.params[j]? = some t → args[j]? = some v → Value.okWide Try.prog W .any base t v := hval0
  have hW' := hW
  obtain ⟨p, q, hA0, hV, rfl, hfz, hnd⟩ := hW
  have hA : DataW.TrodAll enc Try.prog W 0 (fun _ => true) true Try.f8.params.toList args.toList ds p := hA0
  rw [Try.params8] at hA hval
  obtain ⟨v0, vs0, d0, ds0, p0, q0, hargs, rfl, rfl, h0, r0⟩ := trodAll_cons hA
  obtain ⟨rfl, rfl, rfl⟩ := trodAll_nil r0
  obtain rfl : args = #[v0] := by cases args; simp_all
  obtain ⟨rfl, rfl⟩ := trodVars_none hV
  obtain ⟨a0, len0, cap0, rfl⟩ := okWide_slice Try.underlying45 (hval 0 45 v0 rfl rfl)
  have k0 := h0
  have lt0 : ∀ x ∈ p0, x.block < W.heap.size := by obtain ⟨m, hm⟩ := k0; exact DataW.trod_lt m _ _ _ hm
  obtain ⟨z0, w0⟩ : ∃ zs, IsRow .u8 W a0 len0 cap0 zs := by
    obtain ⟨fuel, hf⟩ := h0
    rcases open_ints Try.underlying45 Try.underlying5 (by kernel_rfl) hf with ⟨hcs, _⟩ | ⟨x, l, c, zs, hcs, _, hl, hm, hz, _, hcell, hwz⟩
    · simp [Value.cells] at hcs
      obtain ⟨rfl, rfl, rfl⟩ := hcs
      exact ⟨[], .inl ⟨rfl, rfl, rfl, rfl⟩⟩
    · simp [Value.cells] at hcs
      obtain ⟨rfl, rfl, rfl⟩ := hcs
      exact ⟨zs, .inr ⟨_, rfl, hl, hm, by simpa using hz, hcell, hwz⟩⟩
  clear hA0 hval0
  refine (walk a0 len0 cap0 z0 W w0).mono fun e W' ⟨he, bel⟩ => ?_
  subst he
  exact ⟨_, rfl, _, _, _, [], _, [], hW', trodAll_mk1 (shut_bool Try.underlying4 _), (trodAll_cons_mk (Below.trod laidOut (by kernel_rfl) (of_decide_eq_true (by kernel_rfl)) k0 bel lt0) trodAll_mk0), rfl, bel.frame _, fun h => by cases h⟩

theorem over : Rows.poolLastRow.holds Try.pinned (OpenSpec.ofChange Rows.poolLastSpec) :=
  OpenClaim.holds_of_wide 8 Try.f8 rfl rfl rfl rfl rfl rfl rfl ⟨rfl, rfl, rfl, rfl, rfl⟩ rfl rfl rfl rfl rfl (by kernel_rfl) Try.func8 (by kernel_rfl)
    (of_decide_eq_true (by kernel_rfl)) (by unfold Func.isWrapper; first | (rw [if_pos (by decide +kernel)]; kernel_rfl) | (rw [if_neg (by decide +kernel)]; exact ⟨rfl, rfl⟩))
    (fun os started H enc _ => lifted os started H enc)

theorem proved : Rows.PoolLastSaid := over
#print axioms proved
end Go.Proofs.Ytmfjalnlfcbdlaa.poolLast
