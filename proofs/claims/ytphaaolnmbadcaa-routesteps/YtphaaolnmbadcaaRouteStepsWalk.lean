/-
  The law RouteSteps (package shunterlaw14), walked. Conditions: that package route comes to what RouteSpec says.
-/
import Derived.Test.YtphaaolnmbadcaaRouteTellsA
namespace Go.Proofs.Ytphaaolnmbadcaa
open Go.ChangeShapes Go.WideShapes Go.ChangeAt Go.RowKit
set_option linter.unusedVariables false

theorem go_in {p : PV} {es : List (Int × Int)} {rs : List (List Int)} {n : Nat} (hm : MayN p es rs n) {w : Int} : ∀ (f : Nat) (v : Int), 0 ≤ v ∧ v < (n : Int) → ∀ x ∈ Route.go es rs w f v, 0 ≤ x ∧ x < (n : Int)
  | 0, v, hv, x, hx => by
    unfold Route.go at hx
    split at hx
    · rw [List.mem_singleton] at hx; rw [hx]; exact hv
    · cases hx
  | f + 1, v, hv, x, hx => by
    by_cases e : v = w
    · subst e
      rw [Route.go_self, List.mem_singleton] at hx
      rw [hx]; exact hv
    · by_cases hp : Plan.port es v (Route.nx rs v w) < 0
      · rw [Route.go_no e hp] at hx; cases hx
      · rw [Route.go_on e hp] at hx
        by_cases h1 : Route.go es rs w f (Route.nx rs v w) = []
        · rw [if_pos h1] at hx; cases hx
        · rw [if_neg h1] at hx
          rcases List.mem_cons.1 hx with rfl | hx
          · exact hv
          · exact go_in hm f _ (hm.in_bes (Route.port_pos' hp)) x hx
set_option maxHeartbeats 8000000 in
set_option maxRecDepth 100000 in
theorem routeSteps_any (S : RouteSpec) (w : World) (z0 : Int) (w0 : (Lit.int .u8 z0).wf = true) (z1 : Int) (w1 : (Lit.int .u8 z1).wf = true) (z2 : Int) (w2 : (Lit.int .u8 z2).wf = true) (z3 : Int) (w3 : (Lit.int .u16 z3).wf = true) (a : Option Addr) (n c : Nat) (l : List Nat) (ho : Octs w a n l) (z4 : Int) (w4 : (Lit.int .u8 z4).wf = true) (z5 : Int) (w5 : (Lit.int .u8 z5).wf = true) :
    Calls Try.prog 8 #[.int .u8 z0, .int .u8 z1, .int .u8 z2, .int .u16 z3, .slice a n c, .int .u8 z4, .int .u8 z5] w fun e w' => e = .returned (.bool true) ∧ Below w.heap.size w w' := by
  have HO : Hid (Octs w a n l) := ho
  have b0 := bounds_u8 w0
  have b1 := bounds_u8 w1
  have b2 := bounds_u8 w2
  have b3 := bounds_u16 w3
  have b4 := bounds_u8 w4
  have b5 := bounds_u8 w5
  obtain ⟨nodes, rfl⟩ := Int.eq_ofNat_of_zero_le b0.1
  obtain ⟨room, rfl⟩ := Int.eq_ofNat_of_zero_le b1.1
  obtain ⟨more, rfl⟩ := Int.eq_ofNat_of_zero_le b2.1
  obtain ⟨J, rfl⟩ := Int.eq_ofNat_of_zero_le b3.1
  obtain ⟨A, rfl⟩ := Int.eq_ofNat_of_zero_le b4.1
  obtain ⟨B, rfl⟩ := Int.eq_ofNat_of_zero_le b5.1
  have h0 : nodes < 256 := by omega
  have h1 : room < 256 := by omega
  have h2 : more < 256 := by omega
  have h3 : J < 65536 := by omega
  have hA : A < 256 := by omega
  have hB : B < 256 := by omega
  clear ho w0 w1 w2 w3 w4 w5 b0 b1 b2 b3 b4 b5
  go_enter Try.func8, Try.ntmps8
  go_wp2_with fail
  refine (makeN_is nodes room more J h0 h1 h2 h3 HO.out).mono ?_
  rintro e wc ⟨q, rfl, hM, hQ, hmay, hBc⟩
  obtain ⟨hN2, hN6⟩ := Plan.mkN_b nodes
  have hN := hM.nodes
  obtain ⟨N, hNe⟩ : ∃ N, Plan.mkN nodes = N := ⟨_, rfl⟩
  rw [hNe] at hN hN2 hN6 hQ hmay
  obtain ⟨ws, hws⟩ : ∃ ws, Plan.mkW more (Plan.mkL more) = ws := ⟨_, rfl⟩
  obtain ⟨rs, hrs⟩ : ∃ rs, Route.mkRows N l = rs := ⟨_, rfl⟩
  obtain ⟨es, hes⟩ : ∃ es, Plan.full J N = es := ⟨_, rfl⟩
  rw [hws, hrs, hes] at hQ hmay
  obtain ⟨qN, lanes, room', queue, rounds, every, bag, start, ea, en, ec, wa', wn, wc', na, nn, nc⟩ := q
  simp only at hN
  subst hN
  have HQ : Hid (PlN (wc.alloc (PV.obj ⟨(N : Int), lanes, room', queue, rounds, every, bag, start, ea, en, ec, wa', wn, wc', na, nn, nc⟩)) ⟨(N : Int), lanes, room', queue, rounds, every, bag, start, ea, en, ec, wa', wn, wc', na, nn, nc⟩ es ws rs) := hQ.below (fresh _ _)
  have HMay : Hid (Plan.may (PV.num ⟨(N : Int), lanes, room', queue, rounds, every, bag, start, ea, en, ec, wa', wn, wc', na, nn, nc⟩) es ws (rs.map List.length) = true) := hmay
  have HMn : Hid (MayN ⟨(N : Int), lanes, room', queue, rounds, every, bag, start, ea, en, ec, wa', wn, wc', na, nn, nc⟩ es rs N) := by
    obtain ⟨n', hm⟩ := may_n hmay
    have := hm.nodes
    simp only at this
    obtain rfl : N = n' := by omega
    exact hm
  have HBc : Hid (Below w.heap.size w (wc.alloc (PV.obj ⟨(N : Int), lanes, room', queue, rounds, every, bag, start, ea, en, ec, wa', wn, wc', na, nn, nc⟩))) := later hBc (fresh _ _)
  have HY : Hid (Bxd (wc.alloc (PV.obj ⟨(N : Int), lanes, room', queue, rounds, every, bag, start, ea, en, ec, wa', wn, wc', na, nn, nc⟩)) wc.heap.size ⟨(N : Int), lanes, room', queue, rounds, every, bag, start, ea, en, ec, wa', wn, wc', na, nn, nc⟩) := bxd_new _ _
  clear hM hQ hmay hBc hws hrs hes hNe
  simp only [PV.obj] at HQ HBc HY
  simp only [PV.val]
  obtain ⟨x, hx⟩ : ∃ x : Nat, (A : Int) % (N : Int) = x := ⟨A % N, by rw [Int.natCast_emod]⟩
  obtain ⟨y, hy⟩ : ∃ y : Nat, (B : Int) % (N : Int) = y := ⟨B % N, by rw [Int.natCast_emod]⟩
  have hxN : x < N := by have := Int.emod_lt_of_pos (A : Int) (show (0 : Int) < (N : Int) by omega); omega
  have hyN : y < N := by have := Int.emod_lt_of_pos (B : Int) (show (0 : Int) < (N : Int) by omega); omega
  have hN0 : N ≠ 0 := by omega
  have hN0b : ((N : Int) == 0) = false := by simp; omega
  go_upto_region 2 with fail
  generalize wc.alloc _ = W at HQ HBc HY ⊢
  obtain ⟨g, hg⟩ : ∃ g, wc.heap.size = g := ⟨_, rfl⟩
  rw [hg] at HY ⊢
  clear hg
  obtain ⟨y0, y1, y2, y3, y4, y5, y6, y7, y8, y9, y10⟩ := HY.out
  simp only at y0 y1 y2 y3 y4 y5 y6 y7 y8 y9 y10
  have hgo : Route.pathOf true (N : Int) es rs (x : Int) (y : Int) = Route.go es rs (y : Int) (N - 1) (x : Int) := by
    rw [pathOf_yes ⟨by omega, by omega⟩ ⟨by omega, by omega⟩, Int.toNat_natCast]
  obtain ⟨L, hL⟩ : ∃ L, Route.go es rs (y : Int) (N - 1) (x : Int) = L := ⟨_, rfl⟩
  have HL : Hid (Route.go es rs (y : Int) (N - 1) (x : Int) = L) := hL
  have HPa : Hid (Route.pathOf true (N : Int) es rs (x : Int) (y : Int) = L) := by show _ = _; rw [hgo]; exact hL
  obtain ⟨k, hk⟩ : ∃ k, L.length = k := ⟨_, rfl⟩
  have HK : Hid (L.length = k) := hk
  have hk6 : k ≤ 6 := by have := Route.go_len es rs (y : Int) (N - 1) (x : Int); rw [hL, hk] at this; omega
  clear hgo hL hk
  go_wp2_with fail
  refine (S.path HQ.out HMay.out (x : Int) (y : Int) (by unfold I64; omega) (by unfold I64; omega)).mono ?_
  rintro e w1 ⟨a1, c1, rfl, hz1, hc1, hc2, hB1⟩
  have hPL := HPa.out
  simp only at hz1 hc1
  rw [hPL, HK.out] at hz1 hc1
  simp only
  rw [hPL, HK.out]
  have HZ1 : Hid (Zr w1 a1 k L) := hz1
  have HY1 : Hid (Bxd w1 g ⟨(N : Int), lanes, room', queue, rounds, every, bag, start, ea, en, ec, wa', wn, wc', na, nn, nc⟩) := HY.out.below hB1
  have HQ1 : Hid (PlN w1 ⟨(N : Int), lanes, room', queue, rounds, every, bag, start, ea, en, ec, wa', wn, wc', na, nn, nc⟩ es ws rs) := HQ.out.below hB1
  have HB1 : Hid (Below w.heap.size w w1) := later HBc.out hB1
  clear hB1 hz1 hPL HY HQ HBc y0 y1 y2 y3 y4 y5 y6 y7 y8 y9 y10
  go_wp2_with fail
  go_loopw [19, 20] (fun i _ wr => ∃ t : Nat, t ≤ k ∧ i = .int .i64 t ∧ Below w1.heap.size w1 wr) (fun i _ _ => k - (intOf i).toNat)
  case atStart => exact ⟨0, Nat.zero_le _, rfl, Below.refl _ _⟩
  case round =>
    obtain ⟨t, ht, rfl, hBr⟩ := hrel
    have HBr : Hid (Below w1.heap.size w1 wr) := hBr
    clear hBr
    by_cases htk : t < k
    · have htI : (t : Int) < (k : Int) := by omega
      obtain ⟨b, off, hla, cL⟩ := (HZ1.out.below HBr.out).at htk
      subst hla
      obtain ⟨v, hv⟩ : ∃ v, L.getD t 0 = v := ⟨_, rfl⟩
      rw [hv] at cL
      have hvN : 0 ≤ v ∧ v < (N : Int) := by
        have hmem : L.getD t 0 ∈ L := by
          have := HK.out
          rw [List.getD_eq_getElem?_getD, List.getElem?_eq_getElem (show t < L.length by omega)]
          exact List.getElem_mem _
        rw [hv, ← HL.out] at hmem
        exact go_in HMn.out _ _ ⟨by omega, by omega⟩ _ hmem
      have HD : Hid (Route.pathOf true (N : Int) es rs v (y : Int) = L.drop t ∧ (L.drop t).length = k - t) := by
        refine ⟨?_, by rw [List.length_drop]; have := HK.out; omega⟩
        rw [pathOf_yes hvN ⟨by omega, by omega⟩, Int.toNat_natCast]
        have h := Route.go_steps (es := es) (rs := rs) (w := (y : Int)) (f := N - 1) (v := (x : Int)) (i := t) (by rw [HL.out]; have := HK.out; omega)
        rw [HL.out, hv] at h
        exact h
      have HOnce : Hid (∀ j, j < t → L.getD j 0 ≠ v) := fun j hj => by
        have h := Route.go_once (es := es) (rs := rs) (w := (y : Int)) (f := N - 1) (v := (x : Int)) hj (by rw [HL.out]; have := HK.out; omega)
        rw [HL.out, hv] at h
        exact h
      have HV : Hid (I64 v) := by show I64 v; unfold I64; omega
      have HVt : Hid (L.getD t 0 = v) := hv
      have Kd : Hid (wr.drew.cell? ⟨b, off + t, none⟩ = some (.int .i64 v)) := cL
      have HYd : Hid (Bxd wr.drew g ⟨(N : Int), lanes, room', queue, rounds, every, bag, start, ea, en, ec, wa', wn, wc', na, nn, nc⟩) := HY1.out.below HBr.out.drew
      have HQd : Hid (PlN wr.drew ⟨(N : Int), lanes, room', queue, rounds, every, bag, start, ea, en, ec, wa', wn, wc', na, nn, nc⟩ es ws rs) := HQ1.out.below HBr.out.drew
      have HZd : Hid (Zr wr.drew (some ⟨b, off, none⟩) k L) := HZ1.out.below HBr.out.drew
      have HBd : Hid (Below w1.heap.size w1 wr.drew) := HBr.out.drew
      obtain ⟨y0, y1, y2, y3, y4, y5, y6, y7, y8, y9, y10⟩ := HY1.out.below HBr.out
      simp only at y0 y1 y2 y3 y4 y5 y6 y7 y8 y9 y10
      have hcap1 : (t : Int) ≤ (k : Int) := by omega
      have hcap2 : t ≤ k := by omega
      have hkc : (k : Int) ≤ (c1 : Int) := by omega
      clear hv hvN
      go_wp2_with fail
      go_region_held3 (fun w' => w'.cell? ⟨b, off + t, none⟩ = some (.int .i64 v) ∧ w'.cell? ⟨g, 0, none⟩ = some (Value.int .i64 (N : Int)) ∧ w'.cell? ⟨g, 1, none⟩ = some (Value.slice ea en ec) ∧ w'.cell? ⟨g, 2, none⟩ = some (Value.int .i64 lanes) ∧ w'.cell? ⟨g, 3, none⟩ = some (Value.int .i64 room') ∧ w'.cell? ⟨g, 4, none⟩ = some (Value.int .i64 queue) ∧ w'.cell? ⟨g, 5, none⟩ = some (Value.int .i64 rounds) ∧ w'.cell? ⟨g, 6, none⟩ = some (Value.int .i64 every) ∧ w'.cell? ⟨g, 7, none⟩ = some (Value.int .i64 bag) ∧ w'.cell? ⟨g, 8, none⟩ = some (Value.slice wa' wn wc') ∧ w'.cell? ⟨g, 9, none⟩ = some (Value.int .u16 start) ∧ w'.cell? ⟨g, 10, none⟩ = some (Value.slice na nn nc)) (first | with_reducible exact ⟨K2.out, HY5.out.conj⟩ | with_reducible exact ⟨K1.out, HY4.out.conj⟩ | with_reducible exact ⟨Kd.out, HYd.out.conj⟩) (first | (go_at_call 18; refine (wsame_any HE4.out (HZ4.out.drop (by omega)) (by omega)).mono ?_; rintro e w5 ⟨rfl, hB5⟩; have HB5 : Hid (Below w1.heap.size w1 w5) := later HB4.out hB5; have HY5 : Hid (Bxd w5 g ⟨(N : Int), lanes, room', queue, rounds, every, bag, start, ea, en, ec, wa', wn, wc', na, nn, nc⟩) := HY4.out.below hB5; have K2 : Hid (w5.cell? ⟨b, off + t, none⟩ = some (.int .i64 v)) := (hB5.cell (p := ⟨b, off + t, none⟩) (cell_lt K1.out)).trans K1.out; clear hB5) | (go_at_call 12; refine (S.path' HQd.out HMay.out v (y : Int) HV.out (by unfold I64; omega) (L.drop t) HD.out.1 (k - t) HD.out.2).mono ?_; rintro e w4 ⟨a4, c4, rfl, hz4, hB4⟩; have HB4 : Hid (Below w1.heap.size w1 w4) := later HBd.out hB4; have HY4 : Hid (Bxd w4 g ⟨(N : Int), lanes, room', queue, rounds, every, bag, start, ea, en, ec, wa', wn, wc', na, nn, nc⟩) := HYd.out.below hB4; have HZ4 : Hid (Zr w4 (some ⟨b, off, none⟩) k L) := HZd.out.below hB4; have HE4 : Hid (Zr w4 a4 (k - t) (L.drop t)) := hz4; have K1 : Hid (w4.cell? ⟨b, off + t, none⟩ = some (.int .i64 v)) := (hB4.cell (p := ⟨b, off + t, none⟩) (cell_lt Kd.out)).trans Kd.out; clear hz4 hB4))
      clear y0 y1 y2 y3 y4 y5 y6 y7 y8 y9 y10 cL
      go_wp2_with fail
      go_loopw [20] (fun i wx => ∃ s : Nat, s ≤ t ∧ i = .int .i64 s ∧ Below w1.heap.size w1 wx) (fun i _ => t - (intOf i).toNat)
      case atStart => exact ⟨0, Nat.zero_le _, rfl, HB5.out⟩
      case round =>
        obtain ⟨s, hs, rfl, hBs⟩ := hrel
        have HBs : Hid (Below w1.heap.size w1 wr) := hBs
        by_cases hst : s < t
        · have hsI : (s : Int) < (t : Int) := by omega
          have hskI : (s : Int) < (k : Int) := by omega
          have hsk : s < k := by omega
          obtain ⟨b', o', e1, cS⟩ := (HZ1.out.below hBs).at hsk
          cases e1
          obtain ⟨b', o', e1, cT⟩ := (HZ1.out.below hBs).at htk
          cases e1
          have hne := HOnce.out s hst
          obtain ⟨y1, hy1⟩ : ∃ y, L.getD s 0 = y := ⟨_, rfl⟩
          rw [hy1] at cS hne
          rw [HVt.out] at cT
          have hne' : (y1 == v) = false := by simpa using hne
          clear hy1 hBs hne
          go_wp2_with fail
          go_region
          all_goals go_wp2_with fail
          all_goals go_roundw
          all_goals first | (simp [intOf]; omega) | exact ⟨s + 1, by omega, by go_num, HBs.out.drew⟩ | ((repeat apply Exists.intro); exact ⟨⟨s + 1, by omega, by go_num, HBs.out.drew⟩, rfl⟩)
        · have hstI : ¬ (s : Int) < (t : Int) := by omega
          clear hBs hst
          go_wp2_with fail
          go_roundw
          case rel => first | exact ⟨t + 1, by omega, by go_num, HBs.out⟩ | ((repeat apply Exists.intro); exact ⟨⟨t + 1, by omega, by go_num, HBs.out⟩, rfl⟩)
          case measure => simp [intOf]; omega
    · obtain rfl : t = k := by omega
      by_cases hk0 : t = 0
      · subst hk0
        have hxy : x ≠ y := by
          intro e
          have h := HL.out
          have h2 := HK.out
          rw [← h, e, Route.go_self] at h2
          simp at h2
        have HBad : Hid (Route.Bad (N : Int) es rs) := .inl ⟨x, y, by omega, by omega, hxy, by rw [Int.toNat_natCast, HL.out]; exact List.length_eq_zero_iff.1 HK.out⟩
        clear hxy
        go_wp2_with fail
        refine (rknown_any S _).mono ?_
        rintro e w6 ⟨rfl, hB6⟩
        have HB6 : Hid (Below w1.heap.size w1 w6) := later HBr.out hB6
        have HY6 : Hid (Bxd w6 g ⟨(N : Int), lanes, room', queue, rounds, every, bag, start, ea, en, ec, wa', wn, wc', na, nn, nc⟩) := HY1.out.below HB6.out
        have HQ6 : Hid (PlN w6 ⟨(N : Int), lanes, room', queue, rounds, every, bag, start, ea, en, ec, wa', wn, wc', na, nn, nc⟩ es ws rs) := HQ1.out.below HB6.out
        clear hB6
        obtain ⟨y0, y1, y2, y3, y4, y5, y6, y7, y8, y9, y10⟩ := HY6.out
        simp only at y0 y1 y2 y3 y4 y5 y6 y7 y8 y9 y10
        go_wp2_with fail
        refine (S.check' HQ6.out HMay.out 140 (.inr (.inl ⟨rfl, HBad.out, rfl⟩))).mono ?_
        rintro e w7 ⟨rfl, hB7⟩
        have HB7 : Hid (Below w1.heap.size w1 w7) := later HB6.out hB7
        clear hB7 y0 y1 y2 y3 y4 y5 y6 y7 y8 y9 y10
        go_wp2_with fail
        go_ret
        exact ⟨rfl, HB1.out.trans (HB7.out.mono HB1.out.size)⟩
      · have hk1 : decide (0 < t) = true := decide_eq_true (by omega)
        have hk2 : 0 < t := by omega
        clear hk0
        go_wp2_with fail
        refine (rknown_any S _).mono ?_
        rintro e w6 ⟨rfl, hB6⟩
        have HB6 : Hid (Below w1.heap.size w1 w6) := later HBr.out hB6
        clear hB6
        go_wp2_with fail
        go_ret
        exact ⟨rfl, HB1.out.trans (HB6.out.mono HB1.out.size)⟩
end Go.Proofs.Ytphaaolnmbadcaa
