/-
  The document's own plan (package shunterref12): Hops; New of package shunterref11. Conditions: none but that the plan's rows are led to.
-/
import Derived.Test.YtphaaolnmbadcaaRefPlanB
namespace Go.Proofs.Ytphaaolnmbadcaa
open Go.ChangeShapes Go.WideShapes Go.ChangeAt Go.RowKit
set_option linter.unusedVariables false

namespace Plan
/-- hops of v, to those of the first k beside it -/
def hopsPart (l : List Int) (v : Nat) (k : Nat) : List (Int × Int) := ((l.take k).filter fun u => decide (0 ≤ u) && decide (u < 6)).map fun u => ((v : Int), u)
theorem hopsPart_zero (l : List Int) (v : Nat) : hopsPart l v 0 = [] := rfl
theorem hopsPart_hit {l : List Int} {v k : Nat} (h : k < l.length) (h1 : 0 ≤ l.getD k 0) (h2 : l.getD k 0 < 6) : hopsPart l v (k + 1) = hopsPart l v k ++ [((v : Int), l.getD k 0)] := by
  unfold hopsPart
  have h3 : (decide (0 ≤ l.getD k 0) && decide (l.getD k 0 < 6)) = true := by simp only [h1, h2, decide_true, Bool.and_self]
  rw [take_getD h, List.filter_append, List.map_append, List.filter_cons, h3]
  simp
theorem hopsPart_miss {l : List Int} {v k : Nat} (h : k < l.length) (h1 : ¬ (0 ≤ l.getD k 0 ∧ l.getD k 0 < 6)) : hopsPart l v (k + 1) = hopsPart l v k := by
  unfold hopsPart
  have h3 : (decide (0 ≤ l.getD k 0) && decide (l.getD k 0 < 6)) = false := by
    rw [Bool.and_eq_false_iff]
    by_cases h2 : 0 ≤ l.getD k 0
    · exact .inr (decide_eq_false (fun h => h1 ⟨h2, h⟩))
    · exact .inl (decide_eq_false h2)
  rw [take_getD h, List.filter_append, List.map_append, List.filter_cons, h3]
  simp
theorem hopsPart_all (es : List (Int × Int)) (v : Nat) : hopsPart (bes es v) v (bes es v).length = hopsOf es v := by
  unfold hopsPart hopsOf
  rw [List.take_length]
theorem hopsPart_len {l : List Int} (v k : Nat) (h : Asc l) : (hopsPart l v k).length ≤ 6 := by
  have h1 := few_asc ((l.take k).filter fun u => decide (0 ≤ u) && decide (u < 6)) 0 6 ((List.Pairwise.sublist (List.take_sublist _ _) h).filter _) (fun u hu => by
    have := (List.mem_filter.1 hu).2
    simpa using this) (by omega)
  unfold hopsPart
  rw [List.length_map]
  omega
end Plan
/-- a row that was there lies elsewhere than a new one -/
theorem apart_of {w w2 : World} {a : Option Addr} {l : List Int} {base n size : Nat} {t : TypeId} {v : Value} {xs : List Value} (h : (a = none ∧ l = []) ∨ ∃ g, a = some ⟨g, 0, none⟩ ∧ w.heap.size ≤ g ∧ g < w2.heap.size) (ho : w.ownsRow base t size v n xs) : ∀ ad, a = some ad → v.ownBlock ≠ some ad.block := by
  intro ad e hv
  rcases h with ⟨h1, _⟩ | ⟨g, h1, h2, _⟩
  · rw [h1] at e; cases e
  · rw [h1] at e
    cases e
    have := (ho.lt _ hv).2
    simp only at this
    omega
set_option maxHeartbeats 4000000 in
set_option maxRecDepth 100000 in
theorem rhops_any {w : World} {p : PV} {es : List (Int × Int)} {ws : List Int} {ns : List Nat} (h : Pl w p es ws ns) :
    Calls Try.prog 46 #[p.val] w fun e w' => ∃ u, e = .returned u ∧ w'.ownsRow w.heap.size 56 2 u (Plan.hops p.nodes es).length (pcells (Plan.hops p.nodes es)) ∧ Below w.heap.size w w' := by
  have HP : Hid (Pl w p es ws ns) := h
  clear h
  have HX : Hid (Bxd (w.alloc p.obj) w.heap.size p) := bxd_new w p
  have HW : Hid (Below w.heap.size w (w.alloc p.obj) ∧ (w.alloc p.obj).heap.size = w.heap.size + 1) := ⟨fresh _ _, by simp⟩
  simp only [PV.val, PV.obj] at HX HW ⊢
  go_enter Try.func46, Try.ntmps46
  go_wp2_with fail
  generalize w.alloc _ = W1 at HX HW ⊢
  go_loopw [3, 4, 5, 6] (fun u i _ _ wr => ∃ k : Nat, k ≤ Plan.upto p.nodes ∧ i = .int .i64 k ∧ wr.ownsRow W1.heap.size 56 2 u (Plan.hopsTo es k).length (pcells (Plan.hopsTo es k)) ∧ Below W1.heap.size W1 wr) (fun _ i _ _ _ => Plan.upto p.nodes - (intOf i).toNat)
  case atStart => exact ⟨0, Nat.zero_le _, rfl, World.ownsRow_nil _ _ _ _, Below.refl _ _⟩
  case round =>
    obtain ⟨k, hk, rfl, hO, hB⟩ := hrel
    have HO : Hid (wr.ownsRow W1.heap.size 56 2 u3 (Plan.hopsTo es k).length (pcells (Plan.hopsTo es k))) := hO
    have HB : Hid (Below W1.heap.size W1 wr) := hB
    have hx := HX.out.below hB
    have hc0 := hx.c0
    have hup : Plan.upto p.nodes ≤ 6 := by unfold Plan.upto; omega
    clear hO hB
    by_cases hkn : k < Plan.upto p.nodes
    · have hk1 : (k : Int) < p.nodes := by unfold Plan.upto at hkn; omega
      have hk6 : (k : Int) < 6 := by omega
      have HK : Hid (k < Plan.upto p.nodes ∧ Plan.upto p.nodes ≤ 6) := ⟨hkn, hup⟩
      obtain ⟨_, hc1, hc2, hc3, hc4, hc5, hc6, hc7, hc8, hc9, hc10⟩ := hx
      clear hkn hup hk
      have hsz := HB.out.size
      obtain ⟨l, hl⟩ : ∃ l, Plan.bes es (k : Int) = l := ⟨_, rfl⟩
      have HL : Hid (Plan.bes es (k : Int) = l) := hl
      have HA : Hid (Plan.Asc l) := by have := Plan.bes_asc es (k : Int); rw [hl] at this; exact this
      have hbl : l.length ≤ 8796093022208 := by have h1 := Plan.bes_len es (k : Int); have h2 := HP.out.eb; have h3 := HP.out.he.1; rw [hl] at h1; omega
      have HTl : Hid ((Plan.hopsTo es k).length ≤ 6 * k) := Plan.hopsTo_len es k
      clear hl
      go_wp2_with (go_at_call 64; refine (rbeside_any (p := p) ((HP.out.below HW.out.1).below HB.out) (k : Int)).mono ?_; rintro e w2 ⟨v2, rfl, hown2, hB2⟩; rw [HL.out] at hown2; obtain ⟨a2, cap2, rfl, hz2, _, _, _, hcap2⟩ := zr_of_owns hown2; have hne2 : ∀ ad, a2 = some ad → u3.ownBlock ≠ some ad.block := apart_of hcap2 HO.out; have HB2 : Hid (Below W1.heap.size W1 w2) := HB.out.trans (hB2.mono hsz); have HO2 : Hid (w2.ownsRow W1.heap.size 56 2 u3 (Plan.hopsTo es k).length (pcells (Plan.hopsTo es k))) := owns_below HO.out hB2; have HZ : Hid (Zr w2 a2 l.length l) := hz2; clear hz2 hown2 hB2 hcap2 hc0 hc1 hc2 hc3 hc4 hc5 hc6 hc7 hc8 hc9 hc10)
      obtain ⟨hne⟩ : Nonempty (∀ ad, a2 = some ad → u3.ownBlock ≠ some ad.block) := ⟨hne2⟩
      go_loopw [3, 6] (fun u i ws => ∃ j : Nat, j ≤ l.length ∧ i = .int .i64 j ∧ ws.ownsRow W1.heap.size 56 2 u (Plan.hopsTo es k ++ Plan.hopsPart l k j).length (pcells (Plan.hopsTo es k ++ Plan.hopsPart l k j)) ∧ Below W1.heap.size W1 ws ∧ Zr ws a2 l.length l ∧ (∀ ad, a2 = some ad → u.ownBlock ≠ some ad.block)) (fun _ i _ => l.length - (intOf i).toNat)
      case atStart => exact ⟨0, Nat.zero_le _, rfl, by rw [Plan.hopsPart_zero, List.append_nil]; exact HO2.out, HB2.out, HZ.out, hne⟩
      case round =>
        obtain ⟨j, hj, rfl, hO3, hB3, hZ3, hne3⟩ := hrel
        have HO3 : Hid (wr.ownsRow W1.heap.size 56 2 u3 (Plan.hopsTo es k ++ Plan.hopsPart l k j).length (pcells (Plan.hopsTo es k ++ Plan.hopsPart l k j))) := hO3
        have HB3 : Hid (Below W1.heap.size W1 wr) := hB3
        have HZ3 : Hid (Zr wr a2 l.length l) := hZ3
        have HNE : Hid (∀ ad, a2 = some ad → u3.ownBlock ≠ some ad.block) := hne3
        clear hO3 hB3 hZ3 hne3 hne
        have hsz3 := HB3.out.size
        by_cases hjn : j < l.length
        · obtain ⟨b, off, ha, hcell⟩ := HZ3.out.at hjn
          have HNB : Hid (u3.ownBlock ≠ some b) := HNE.out _ ha
          subst ha
          obtain ⟨y, hy⟩ : ∃ y, l.getD j 0 = y := ⟨_, rfl⟩
          have HY : Hid (l.getD j 0 = y) := hy
          rw [hy] at hcell
          clear hy
          by_cases h1 : 0 ≤ y
          · by_cases h2 : y < 6
            · have hpl : (Plan.hopsPart l k j).length ≤ 6 := Plan.hopsPart_len k j HA.out
              have HS : Hid ((Plan.hopsTo es k ++ Plan.hopsPart l k j) ++ [((k : Int), y)] = Plan.hopsTo es k ++ Plan.hopsPart l k (j + 1)) := by
                show _ = _
                rw [Plan.hopsPart_hit hjn (by rw [HY.out]; exact h1) (by rw [HY.out]; exact h2), List.append_assoc, HY.out]
              have HLL : Hid ((Plan.hopsTo es k ++ Plan.hopsPart l k j).length ≤ 100) := by
                show _ ≤ _
                have := HTl.out
                have := HK.out
                rw [List.length_append]
                omega
              clear hpl
              go_wp2_with (at_builtin; refine wpList_append_p' rfl _ _ 53 56 rfl Try.underlying53 infoH W1.heap.size u3 (Plan.hopsTo es k ++ Plan.hopsPart l k j) rfl (owns_below HO3.out (fresh _ _)) (by simp; omega) _ 1 _ [((k : Int), y)] rfl (pr_one wr k y _) (fun e => by cases e) (by have := HLL.out; omega) _ HS.out ?_; intro v4 w4 hown4 hB4 hg4 hat4)
              go_roundw
              case rel =>
                have R3 : Zr w4 (some ⟨b, off, none⟩) l.length l := (HZ3.out.below (fresh _ _)).grown hg4 (fun ad e => by cases e; exact HNB.out)
                have R4 : ∀ ad, some (⟨b, off, none⟩ : Addr) = some ad → v4.ownBlock ≠ some ad.block := by
                  intro ad e hv
                  cases e
                  rcases hat4 with h | h
                  · exact HNB.out (h.symm.trans hv)
                  · rw [h] at hv
                    have := cell_lt hcell
                    simp only [World.size_alloc, Option.some.injEq] at hv
                    simp only at this
                    omega
                first | exact ⟨j + 1, by omega, by go_num, hown4, (HB3.out.alloc hsz3 _).trans hB4, R3, R4⟩ | ((repeat apply Exists.intro); exact ⟨⟨j + 1, by omega, by go_num, hown4, (HB3.out.alloc hsz3 _).trans hB4, R3, R4⟩, rfl⟩)
              case measure => simp [intOf]; omega
            · have HS : Hid (Plan.hopsPart l k (j + 1) = Plan.hopsPart l k j) := Plan.hopsPart_miss hjn (by rw [HY.out]; exact fun h => h2 h.2)
              go_wp2_with fail
              go_roundw
              case rel => exact ⟨j + 1, by omega, by go_num, by rw [HS.out]; exact HO3.out, HB3.out, HZ3.out, HNE.out⟩
              case measure => simp [intOf]; omega
          · have HS : Hid (Plan.hopsPart l k (j + 1) = Plan.hopsPart l k j) := Plan.hopsPart_miss hjn (by rw [HY.out]; exact fun h => h1 h.1)
            go_wp2_with fail
            go_roundw
            case rel => exact ⟨j + 1, by omega, by go_num, by rw [HS.out]; exact HO3.out, HB3.out, HZ3.out, HNE.out⟩
            case measure => simp [intOf]; omega
        · obtain rfl : j = l.length := by omega
          have HS : Hid (Plan.hopsTo es k ++ Plan.hopsPart l k l.length = Plan.hopsTo es (k + 1)) := by
            show _ = _
            rw [Plan.hopsTo_succ, ← Plan.hopsPart_all, HL.out]
          go_wp2_with fail
          go_roundw
          case rel =>
            have R1 := HO3.out
            rw [HS.out] at R1
            first | exact ⟨k + 1, by have := HK.out; omega, by go_num, R1, HB3.out⟩ | ((repeat apply Exists.intro); exact ⟨⟨k + 1, by have := HK.out; omega, by go_num, R1, HB3.out⟩, rfl⟩)
          case measure => have := HK.out; simp [intOf]; omega
    · obtain rfl : k = Plan.upto p.nodes := by omega
      have HR : Hid (∃ u, Ending.returned u3 = Ending.returned u ∧ wr.ownsRow w.heap.size 56 2 u (Plan.hops p.nodes es).length (pcells (Plan.hops p.nodes es)) ∧ Below w.heap.size w wr) := by
        refine ⟨_, rfl, owns_mono HO.out (by have := HW.out.2; omega), HW.out.1.trans (HB.out.mono (by have := HW.out.2; omega))⟩
      obtain ⟨K, hK⟩ : ∃ K, Plan.upto p.nodes = K := ⟨_, rfl⟩
      have hno : ¬ ((K : Int) < p.nodes ∧ (K : Int) < 6) := by rw [← hK]; unfold Plan.upto; omega
      rw [hK] at *
      clear hx hK hup hkn hk
      by_cases hq : (K : Int) < p.nodes
      · have hq2 : ¬ (K : Int) < 6 := fun h => hno ⟨hq, h⟩
        clear hno
        go_wp2_with fail
        go_ret
        exact HR.out
      · clear hno
        go_wp2_with fail
        go_ret
        exact HR.out
end Go.Proofs.Ytphaaolnmbadcaa
