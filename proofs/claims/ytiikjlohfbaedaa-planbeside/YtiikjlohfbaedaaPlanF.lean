/-
  Package plan, as it landed: Port, Hops; all of it is what the laws' walks ask of it. Conditions: none but that the plan's rows are led to.
-/
import Derived.Test.YtiikjlohfbaedaaPlanB
import Derived.Test.YtiikjlohfbaedaaPlanE
import Derived.Shelf.Slices.SearchI
import Derived.Shelf.Slices.Empties
namespace Go.Proofs.Ytiikjlohfbaedaa
open Go.ChangeShapes Go.WideShapes Go.ChangeAt Go.RowKit
set_option linter.unusedVariables false

namespace Plan
theorem place_in {x : Int} : ∀ (l : List Int) (k : Nat), Asc l → x ∈ l → place x l k = ((k + l.countP (fun y => decide (y < x)) : Nat) : Int) + 1
  | [], k, _, h => by simp at h
  | y :: r, k, h1, h2 => by
    obtain ⟨a1, a2⟩ := List.pairwise_cons.1 h1
    unfold place
    by_cases e : y = x
    · subst e
      rw [if_pos rfl]
      have h0 : (y :: r).countP (fun z => decide (z < y)) = 0 := by
        rw [List.countP_eq_zero]
        intro z hz
        rcases List.mem_cons.1 hz with e | e
        · subst e; simp
        · have := a1 z e
          simp; omega
      rw [h0, Nat.add_zero]
    · have h3 : x ∈ r := by
        rcases List.mem_cons.1 h2 with e2 | e2
        · exact absurd e2.symm e
        · exact e2
      have h4 := a1 x h3
      rw [if_neg e, place_in r (k + 1) a2 h3, List.countP_cons_of_pos (by simpa using h4)]
      omega
theorem place_out {x : Int} : ∀ (l : List Int) (k : Nat), x ∉ l → place x l k = -1
  | [], k, _ => rfl
  | y :: r, k, h => by
    unfold place
    rw [if_neg (fun e => h (by rw [e]; exact List.mem_cons_self)), place_out r (k + 1) (fun e => h (List.mem_cons_of_mem _ e))]
end Plan
theorem search_any {w : World} {a : Option Addr} {n c : Nat} {l : List Int} (h : Zr w a n l) (ha : Plan.Asc l) (x : Int) (hn : n ≤ 8796093022208) :
    Calls Try.prog 22 #[.slice a n c, .int .i64 x] w fun e w' => ∃ (t : Nat) (b : Bool), e = .returned (.tuple #[.int .i64 t, .bool b]) ∧ t ≤ n ∧ Plan.place x l 0 = (if b then (t : Int) + 1 else -1) ∧ Below w.heap.size w w' := by
  have hl := h.1
  rcases h.2.2 with h0 | ⟨b, off, rfl, hlt, hc⟩
  · subst h0
    have he : l = [] := List.length_eq_zero_iff.1 hl
    subst he
    refine (Any.slices_BinarySearch_int_empty Try.laysNm225 a c x w).mono ?_
    rintro e w' ⟨rfl, rfl⟩
    exact ⟨0, false, rfl, Nat.le_refl _, rfl, Below.refl _ _⟩
  · have et : l.take n = l := List.take_of_length_le (by omega)
    have hS := Any.slices_BinarySearch_int Try.laysNm225 b off n c l x w (by omega) (by omega) (fun j hj => hc j (by omega)) (by rw [et]; exact ha.imp (fun h => Int.le_of_lt h))
    rw [et] at hS
    refine hS.mono ?_
    rintro e w' ⟨rfl, q, rfl⟩
    refine ⟨_, _, rfl, ?_, ?_, drewN_below w q⟩
    · have := List.countP_le_length (l := l) (p := fun y => decide (y < x))
      omega
    · by_cases hx : x ∈ l
      · have e : l.contains x = true := by simpa using hx
        rw [e, Plan.place_in l 0 ha hx, Nat.zero_add]
        rfl
      · have e : l.contains x = false := by simpa using hx
        rw [e, Plan.place_out l 0 hx]
        rfl
set_option maxHeartbeats 2000000 in
set_option maxRecDepth 100000 in
theorem port_any {w : World} {p : PV} {es : List (Int × Int)} {ws : List Int} {ns : List Nat} (h : Pl w p es ws ns) (v u : Int) :
    Calls Try.prog 13 #[p.val, .int .i64 v, .int .i64 u] w fun e w' => e = .returned (.int .i64 (Plan.port es v u)) ∧ Below w.heap.size w w' := by
  have HP : Hid (Pl w p es ws ns) := h
  have heb : es.length ≤ 8796093022208 := by have := h.eb; have := h.he.1; omega
  clear h
  unfold PV.val
  have hbl := Plan.bes_len es v
  have hba := Plan.bes_asc es v
  obtain ⟨l, hl⟩ : ∃ l, Plan.bes es v = l := ⟨_, rfl⟩
  obtain ⟨z, hz⟩ : ∃ z, Plan.port es v u = z := ⟨_, rfl⟩
  have hpo : z = Plan.place u l 0 := by rw [← hz, ← hl]; rfl
  rw [hz]
  rw [hl] at hbl hba
  have HPO : Hid (z = Plan.place u l 0) := hpo
  have HL : Hid (Plan.bes es v = l) := hl
  have HA : Hid (Plan.Asc l) := hba
  clear hl hz hpo hba
  go_enter Try.func13, Try.ntmps13
  go_wp2_with fail
  refine (beside_raw (p := p) (HP.out.below (fresh _ _)) v).mono ?_
  rintro e w2 ⟨v2, rfl, hown2, hB2⟩
  rw [HL.out] at hown2
  obtain ⟨a2, cap2, rfl, hz2, _⟩ := zr_of_owns hown2
  have HB : Hid (Below w.heap.size w w2) := later (fresh _ _) hB2
  have HZ : Hid (Zr w2 a2 l.length l) := hz2
  clear hz2 hown2 hB2
  go_wp2_with fail
  refine (search_any HZ.out HA.out u (by omega)).mono ?_
  rintro e w3 ⟨t, b, rfl, ht, hpl, hB3⟩
  rw [← HPO.out] at hpl
  have HB3 : Hid (Below w.heap.size w w3) := later HB.out hB3
  clear hB3
  cases b with
  | true =>
    have hz2 : z = (t : Int) + 1 := by simpa using hpl
    have HZ2 : Hid (z = (t : Int) + 1) := hz2
    clear hz2
    clear hpl
    go_wp2_with fail
    go_ret
    exact ⟨by rw [HZ2.out]; rfl, HB3.out⟩
  | false =>
    have hz2 : z = -1 := by simpa using hpl
    have HZ2 : Hid (z = -1) := hz2
    clear hz2
    clear hpl
    go_wp2_with fail
    go_ret
    exact ⟨by rw [HZ2.out]; rfl, HB3.out⟩
set_option maxHeartbeats 4000000 in
set_option maxRecDepth 100000 in
theorem hops_own {w : World} {p : PV} {es : List (Int × Int)} {ws : List Int} {ns : List Nat} (h : Pl w p es ws ns) :
    Calls Try.prog 12 #[p.val] w fun e w' => ∃ u, e = .returned u ∧ w'.ownsRow w.heap.size 38 2 u (Plan.hops p.nodes es).length (pcells (Plan.hops p.nodes es)) ∧ Below w.heap.size w w' := by
  have HP : Hid (Pl w p es ws ns) := h
  have hqi := h.qi.1
  clear h
  have HX : Hid (Bxd (w.alloc p.obj) w.heap.size p) := bxd_new w p
  have HW : Hid (Below w.heap.size w (w.alloc p.obj) ∧ (w.alloc p.obj).heap.size = w.heap.size + 1) := ⟨fresh _ _, by simp⟩
  simp only [PV.val, PV.obj] at HX HW ⊢
  go_enter Try.func12, Try.ntmps12
  go_wp2_with fail
  generalize w.alloc _ = W1 at HX HW ⊢
  obtain ⟨U, hU⟩ : ∃ U, min p.nodes 6 = U := ⟨_, rfl⟩
  have HU : Hid (min p.nodes 6 = U) := hU
  rw [hU]
  clear hU hqi
  go_loopw [3, 10] (fun u i wr => ∃ k : Nat, k ≤ Plan.upto p.nodes ∧ i = .int .i64 k ∧ wr.ownsRow W1.heap.size 38 2 u (Plan.hopsTo es k).length (pcells (Plan.hopsTo es k)) ∧ Below W1.heap.size W1 wr) (fun _ i _ => Plan.upto p.nodes - (intOf i).toNat)
  case atStart => exact ⟨0, Nat.zero_le _, rfl, World.ownsRow_nil _ _ _ _, Below.refl _ _⟩
  case round =>
    obtain ⟨k, hk, rfl, hO, hB⟩ := hrel
    have HO : Hid (wr.ownsRow W1.heap.size 38 2 u3 (Plan.hopsTo es k).length (pcells (Plan.hopsTo es k))) := hO
    have HB : Hid (Below W1.heap.size W1 wr) := hB
    have hx := HX.out.below hB
    have hup : Plan.upto p.nodes ≤ 6 := by unfold Plan.upto; omega
    clear hO hB
    by_cases hkn : k < Plan.upto p.nodes
    · have hkU : (k : Int) < U := by have := HU.out; unfold Plan.upto at hkn; omega
      have HK : Hid (k < Plan.upto p.nodes ∧ Plan.upto p.nodes ≤ 6) := ⟨hkn, hup⟩
      obtain ⟨hc0, hc1, hc2, hc3, hc4, hc5, hc6, hc7, hc8, hc9, hc10⟩ := hx
      have hk6 : k < 6 := by omega
      clear hkn hup hk
      have hsz := HB.out.size
      obtain ⟨l, hl⟩ : ∃ l, Plan.bes es (k : Int) = l := ⟨_, rfl⟩
      have HL : Hid (Plan.bes es (k : Int) = l) := hl
      have HA : Hid (Plan.Asc l) := by have := Plan.bes_asc es (k : Int); rw [hl] at this; exact this
      have hbl : l.length ≤ 8796093022208 := by have h1 := Plan.bes_len es (k : Int); have h2 := HP.out.eb; have h3 := HP.out.he.1; rw [hl] at h1; omega
      have HTl : Hid ((Plan.hopsTo es k).length ≤ 6 * k) := Plan.hopsTo_len es k
      clear hl
      go_wp2_with (go_at_call 16; refine (beside_raw (p := p) ((HP.out.below HW.out.1).below HB.out) (k : Int)).mono ?_; rintro e w2 ⟨v2, rfl, hown2, hB2⟩; rw [HL.out] at hown2; obtain ⟨a2, cap2, rfl, hz2, _, _, _, hcap2⟩ := zr_of_owns hown2; have hne2 : ∀ ad, a2 = some ad → u3.ownBlock ≠ some ad.block := apart_of hcap2 HO.out; have HB2 : Hid (Below W1.heap.size W1 w2) := HB.out.trans (hB2.mono hsz); have HZ : Hid (Zr w2 a2 l.length l) := hz2; have HO2 : Hid (w2.ownsRow W1.heap.size 38 2 u3 (Plan.hopsTo es k).length (pcells (Plan.hopsTo es k))) := owns_below HO.out hB2; clear hz2 hown2 hB2 hcap2 hc0 hc1 hc2 hc3 hc4 hc5 hc6 hc7 hc8 hc9 hc10)
      have HNE2 : Hid (∀ ad, a2 = some ad → u3.ownBlock ≠ some ad.block) := hne2
      clear hne2
      go_loopw [3, 17] (fun u i ws => ∃ j : Nat, j ≤ l.length ∧ i = .int .i64 j ∧ ws.ownsRow W1.heap.size 38 2 u (Plan.hopsTo es k ++ Plan.hopsPart l k j).length (pcells (Plan.hopsTo es k ++ Plan.hopsPart l k j)) ∧ Below W1.heap.size W1 ws ∧ Zr ws a2 l.length l ∧ (∀ ad, a2 = some ad → u.ownBlock ≠ some ad.block)) (fun _ i _ => l.length - (intOf i).toNat)
      case atStart => exact ⟨0, Nat.zero_le _, rfl, by rw [Plan.hopsPart_zero, List.append_nil]; exact HO2.out, HB2.out, HZ.out, HNE2.out⟩
      case round =>
        obtain ⟨j, hj, rfl, hO3, hB3, hZ3, hne3⟩ := hrel
        have HO3 : Hid (wr.ownsRow W1.heap.size 38 2 u3 (Plan.hopsTo es k ++ Plan.hopsPart l k j).length (pcells (Plan.hopsTo es k ++ Plan.hopsPart l k j))) := hO3
        have HB3 : Hid (Below W1.heap.size W1 wr) := hB3
        have HZ3 : Hid (Zr wr a2 l.length l) := hZ3
        have HNE : Hid (∀ ad, a2 = some ad → u3.ownBlock ≠ some ad.block) := hne3
        clear hO3 hB3 hZ3 hne3
        have hsz3 := HB3.out.size
        by_cases hjn : j < l.length
        · obtain ⟨b, off, ha, hcell⟩ := HZ3.out.at hjn
          have HNB : Hid (u3.ownBlock ≠ some b) := HNE.out _ ha
          subst ha
          obtain ⟨y, hy⟩ : ∃ y, l.getD j 0 = y := ⟨_, rfl⟩
          have HY : Hid (l.getD j 0 = y) := hy
          rw [hy] at hcell
          clear hy
          cases hb : Plan.bnd y 0 5 with
          | true =>
            have h12 : 0 ≤ y ∧ y ≤ 5 := by unfold Plan.bnd at hb; simpa using hb
            have hpl : (Plan.hopsPart l k j).length ≤ 6 := Plan.hopsPart_len k j HA.out
            have HS : Hid ((Plan.hopsTo es k ++ Plan.hopsPart l k j) ++ [((k : Int), y)] = Plan.hopsTo es k ++ Plan.hopsPart l k (j + 1)) := by
              show _ = _
              rw [Plan.hopsPart_hit hjn (by rw [HY.out]; exact h12.1) (by rw [HY.out]; omega), List.append_assoc, HY.out]
            have HLL : Hid ((Plan.hopsTo es k ++ Plan.hopsPart l k j).length ≤ 100) := by
              show _ ≤ _
              have := HTl.out
              have := HK.out
              rw [List.length_append]
              omega
            clear hpl h12
            go_wp2_with (first | (go_at_call 21; refine (within_any y 0 5 _).mono ?_; rintro e w' ⟨rfl, hq⟩; obtain rfl := hq.symm; rw [hb]) | (at_builtin; refine wpList_append_p' rfl _ _ 35 38 rfl Try.underlying35 infoH W1.heap.size u3 (Plan.hopsTo es k ++ Plan.hopsPart l k j) rfl (owns_below HO3.out (fresh _ _)) (by simp; omega) _ 1 _ [((k : Int), y)] rfl (pr_one wr k y _) (fun e => by cases e) (by have := HLL.out; omega) _ HS.out ?_; intro v4 w4 hown4 hB4 hg4 hat4))
            go_roundw
            case rel =>
              have R3 : Zr w4 (some ⟨b, off, none⟩) l.length l := (HZ3.out.below (fresh _ _)).grown hg4 (fun ad e => by cases e; exact HNB.out)
              have R4 : ∀ ad, some (⟨b, off, none⟩ : Addr) = some ad → v4.ownBlock ≠ some ad.block := by
                intro ad e hv
                cases e
                rcases hat4 with h | h
                · exact HNB.out (h.symm.trans hv)
                · rw [h] at hv
                  have := cell_lt hcell
                  simp only [World.size_alloc, Option.some.injEq] at hv
                  simp only at this
                  omega
              first | exact ⟨j + 1, by omega, by go_num, hown4, (HB3.out.alloc hsz3 _).trans hB4, R3, R4⟩ | ((repeat apply Exists.intro); exact ⟨⟨j + 1, by omega, by go_num, hown4, (HB3.out.alloc hsz3 _).trans hB4, R3, R4⟩, rfl⟩)
            case measure => simp [intOf]; omega
          | false =>
            have h12 : ¬ (0 ≤ y ∧ y < 6) := fun h => by
              have : Plan.bnd y 0 5 = true := by unfold Plan.bnd; simp; omega
              rw [hb] at this
              cases this
            have HS : Hid (Plan.hopsPart l k (j + 1) = Plan.hopsPart l k j) := Plan.hopsPart_miss hjn (by rw [HY.out]; exact h12)
            clear h12
            go_wp2_with (go_at_call 21; refine (within_any y 0 5 _).mono ?_; rintro e w' ⟨rfl, hq⟩; obtain rfl := hq.symm; rw [hb])
            go_roundw
            case rel =>
              have R1 := HO3.out
              rw [← HS.out] at R1
              first | exact ⟨j + 1, by omega, by go_num, R1, HB3.out, HZ3.out, HNE.out⟩ | ((repeat apply Exists.intro); exact ⟨⟨j + 1, by omega, by go_num, R1, HB3.out, HZ3.out, HNE.out⟩, rfl⟩)
            case measure => simp [intOf]; omega
        · obtain rfl : j = l.length := by omega
          have HS : Hid (Plan.hopsTo es k ++ Plan.hopsPart l k l.length = Plan.hopsTo es (k + 1)) := by
            show _ = _
            rw [Plan.hopsTo_succ, ← Plan.hopsPart_all, HL.out]
          go_wp2_with fail
          go_roundw
          case rel =>
            have R1 := HO3.out
            rw [HS.out] at R1
            first | exact ⟨k + 1, by have := HK.out; omega, by go_num, R1, HB3.out⟩ | ((repeat apply Exists.intro); exact ⟨⟨k + 1, by have := HK.out; omega, by go_num, R1, HB3.out⟩, rfl⟩)
          case measure => have := HK.out; simp [intOf]; omega
    · obtain rfl : k = Plan.upto p.nodes := by omega
      have HR : Hid (∃ u, Ending.returned u3 = Ending.returned u ∧ wr.ownsRow w.heap.size 38 2 u (Plan.hops p.nodes es).length (pcells (Plan.hops p.nodes es)) ∧ Below w.heap.size w wr) := by
        refine ⟨_, rfl, owns_mono HO.out (by have := HW.out.2; omega), HW.out.1.trans (HB.out.mono (by have := HW.out.2; omega))⟩
      have hno : ¬ ((Plan.upto p.nodes : Nat) : Int) < U := by have := HU.out; unfold Plan.upto; omega
      obtain ⟨K, hK⟩ : ∃ K, Plan.upto p.nodes = K := ⟨_, rfl⟩
      rw [hK] at hno ⊢
      clear hx hup hkn hk HO hK
      go_wp2_with fail
      go_ret
      exact HR.out
theorem planSpec : PlanSpec where
  beside := fun h v _ => (beside_raw h v).mono fun e w' ⟨u, he, ho, hB⟩ => by
    obtain ⟨a, cap, rfl, hz, _⟩ := zr_of_owns ho
    exact ⟨a, cap, he, hz, hB⟩
  port := fun h v u _ _ => port_any h v u
  hops := fun h => (hops_own h).mono fun e w' ⟨u, he, ho, hB⟩ => by
    obtain ⟨a, cap, rfl, hz, _⟩ := pr_of_owns ho
    exact ⟨a, cap, he, hz, hB⟩
  check := fun h => check_any h
end Go.Proofs.Ytiikjlohfbaedaa
