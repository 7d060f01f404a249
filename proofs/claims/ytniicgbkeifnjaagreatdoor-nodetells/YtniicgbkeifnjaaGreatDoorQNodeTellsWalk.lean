/-
  The law NodeTells (package shunterlaw16), walked. Conditions: the table behind masks lies as its initialiser lays it.
-/
import Derived.Test.YtniicgbkeifnjaaGreatDoorQ44
import Derived.Test.YtniicgbkeifnjaaGreatDoorQ47
namespace Go.Proofs.YtniicgbkeifnjaaGreatDoor
open Go.ChangeShapes Go.WideShapes Go.ChangeAt Go.RowKit
set_option linter.unusedVariables false
set_option maxRecDepth 100000

namespace Nd
theorem sides_le (es : List (Int × Int)) (v : Int) : ∀ j, Tree.sides es v j ≤ j
  | 0 => Nat.le_refl _
  | j + 1 => by
    have := sides_le es v j
    unfold Tree.sides
    split <;> omega
set_option maxHeartbeats 8000000 in
set_option maxRecDepth 100000 in
theorem nodeTells_any (w : World) (hT : M.Tab w) {a : Option Addr} {n c : Nat} {l : List Nat} (ho : Octs w a n l) (room more start v ticks : Nat) (h1 : room < 256) (h2 : more < 256) (hst : start < 65536) (h3 : v < 256) (h4 : ticks < 256) :
    Calls Tryz.prog 4 #[.slice a n c, .int .u8 (room : Nat), .int .u8 (more : Nat), .int .u16 (start : Nat), .int .u8 (v : Nat), .int .u8 (ticks : Nat)] w fun e w' => e = .returned (.bool true) ∧ Below w.heap.size w w' := by
  have HT : Hid (M.Tab w) := hT
  have HO : Hid (Octs w a n l) := ho
  have HSt : Hid (start < 65536) := hst
  clear hT ho
  have hll := Tree.ofL_len l
  have HOk : Hid (Tree.layOk (Tree.ofL l) = true) := Tree.ofL_lay l
  go_enter Tryz.func4, Tryz.ntmps4
  go_wp2_with fail
  refine (show Calls Tryz.prog 10 #[.slice a n c, .int .u8 (room : Nat), .int .u8 (more : Nat), .int .u16 (start : Nat)] w _ from plan_any HO.out room more start h1 h2 hst).mono ?_
  rintro e w1 ⟨p, rfl, hTP, hB1⟩
  have hnd := hTP.nodes
  obtain ⟨N, hN⟩ : ∃ N, (Tree.ofL l).length + 1 = N := ⟨_, rfl⟩
  rw [hN] at hnd
  have hN2 : 2 ≤ N ∧ N ≤ 6 := by omega
  have HTP : Hid (TreePlan w1 l room more start p) := hTP
  have HB1 : Hid (Below w.heap.size w w1) := hB1
  obtain ⟨k, hk⟩ : ∃ k : Nat, (v : Int) % (N : Int) = k := ⟨v % N, by rw [Int.natCast_emod]⟩
  have hkN : k < N := by have := Int.emod_lt_of_pos (v : Int) (show (0 : Int) < (N : Int) by omega); omega
  obtain ⟨hS1, hS2, hS3⟩ := Tree.sides_is HOk.out (v := k) (by omega)
  obtain ⟨V, hV⟩ : ∃ V, V = w1.alloc p.obj := ⟨_, rfl⟩
  have HV : Hid (Bxd V w1.heap.size p ∧ Below w1.heap.size w1 V) := by rw [hV]; exact ⟨bxd_new _ _, fresh _ _⟩
  have HTV : Hid (TreePlan V l room more start p) := ⟨HTP.out.pln.below HV.out.2, HTP.out.may, HTP.out.good, HTP.out.nodes, HTP.out.start, HTP.out.nums⟩
  have HBV : Hid (Below w.heap.size w V) := later HB1.out HV.out.2
  obtain ⟨es, hes⟩ : ∃ es, Tree.edges (Tree.ofL l) = es := ⟨_, rfl⟩
  obtain ⟨C, hC⟩ : ∃ C, cfgOf p es (Plan.mkW more (Plan.mkL more)) (Tree.rows (Tree.ofL l)) k = C := ⟨_, rfl⟩
  have hNw : ∀ u, Below V.heap.size V u → Calls Tryz.prog 11 #[p.val, .int .i64 (k : Nat)] u fun e u' => ∃ q, e = .returned (.pointer (some ⟨q, 0, none⟩)) ∧ One V u' q C (st0 C start) 0 := fun u hu => by
    have hTu : TreePlan u l room more start p := ⟨HTV.out.pln.below hu, HTV.out.may, HTV.out.good, HTV.out.nodes, HTV.out.start, HTV.out.nums⟩
    have h := one_new hTu (by omega) (v := k) (by rw [hnd]; omega)
    rw [hes, hC] at h
    exact h.mono fun e u' ⟨q, he, hO⟩ => ⟨q, he, hO.wider hu⟩
  rw [hes] at hS1 hS2 hS3
  obtain ⟨nn0, hk0⟩ := newok hTP.may hTP.good (v := k) (by rw [hnd]; omega) (by have := hTP.start; omega)
  have hr8 := hk0.room
  have hev := hk0.every
  have hl8 := hk0.lanes
  have hb5 := hk0.bs5
  rw [hes] at hb5
  obtain ⟨B, hBn⟩ : ∃ B, (Plan.bes es (k : Nat)).length = B := ⟨_, rfl⟩
  rw [hBn] at hb5
  have hen := hTP.pln.pl.he
  rw [hes] at hen
  have hel := hen.1
  have heb := hTP.pln.pl.eb
  have HCf : Hid (C.v = k ∧ C.N = N ∧ p.lanes = (C.L : Int) ∧ p.room = (C.room : Int) ∧ p.every = (C.every : Int) ∧ 1 ≤ C.L ∧ C.L ≤ 3 ∧ C.room ≤ 8 ∧ 1 ≤ C.every ∧ C.every ≤ 8 ∧ C.bs.length = B ∧ B ≤ 5) := by
    rw [← hC]
    refine ⟨rfl, ?_, ?_, ?_, ?_, ?_, ?_, ?_, ?_, ?_, hBn, ?_⟩
    · show p.nodes.toNat = N; omega
    · show p.lanes = ((p.lanes.toNat : Nat) : Int); omega
    · show p.room = ((p.room.toNat : Nat) : Int); omega
    · show p.every = ((p.every.toNat : Nat) : Int); omega
    · show 1 ≤ p.lanes.toNat; omega
    · show p.lanes.toNat ≤ 3; omega
    · show p.room.toNat ≤ 8; omega
    · show 1 ≤ p.every.toNat; omega
    · show p.every.toNat ≤ 8; omega
    · omega
  have HS : Hid (Tree.sides es (k : Nat) es.length = B) := by show _ = _; rw [hS1, hBn]
  have HPr : Hid (Pr V p.ea p.en es) := hen.below HV.out.2
  clear hC hk0 hr8 hl8 hev hS1 hS2 hS3 hb5 hen hN hBn
  clear hTP hB1
  obtain ⟨nodes, lanes, room', queue, rounds, every, bag, start', ea, en, ec, wa, wn, wc', na, nn, nc⟩ := p
  simp only at hnd hel heb
  subst hnd
  obtain ⟨e1, e2, e3, e4, e4', e5⟩ := HCf.out
  simp only at e3 e4 e4'
  subst e3 e4 e4'
  unfold PV.val at hNw
  simp only at hNw
  have HNw : Hid (∀ u, Below V.heap.size V u → Calls Tryz.prog 11 #[.agg #[.int .i64 (N : Nat), .slice ea en ec, .int .i64 (C.L : Nat), .int .i64 (C.room : Nat), .int .i64 queue, .int .i64 rounds, .int .i64 (C.every : Nat), .int .i64 bag, .slice wa wn wc', .int .u16 start', .slice na nn nc], .int .i64 (k : Nat)] u fun e u' => ∃ q, e = .returned (.pointer (some ⟨q, 0, none⟩)) ∧ One V u' q C (st0 C start) 0) := hNw
  clear hNw e1 e2 e5
  simp only [PV.obj] at hV
  simp only [PV.val]
  go_upto_region 2 with fail
  rw [← hV]
  clear hV
  have hN0 : (N : Int) ≠ 0 := by omega
  have hN0b : ((N : Int) == 0) = false := by simp; omega
  obtain ⟨x0, x1, x2, x3, x4, x5, x6, x7, x8, x9, x10⟩ := HV.out.1
  simp only at x0 x1 x2 x3 x4 x5 x6 x7 x8 x9 x10
  go_cut [14] (fun s wx => ∃ q, s = .pointer (some ⟨q, 0, none⟩) ∧ One V wx q C (st0 C start) 0)
  case first =>
    go_region_with (go_at_call 11; refine Calls.mono (HNw.out _ (by first | exact Below.refl _ _ | exact Cr.drewN_below V 1)) ?_; rintro e w3 ⟨q, rfl, hOn⟩; have HO3 : Hid (One V w3 q C (st0 C start) 0) := hOn; clear hOn)
    all_goals (go_wp2_with fail; go_meet; exact ⟨_, rfl, HO3.out⟩)
  case rest =>
    obtain ⟨q, rfl, hOn⟩ := hcut
    have HO3 : Hid (One V wc q C (st0 C start) 0) := hOn
    have HT3 : Hid (M.Tab wc) := (HT.out.below HBV.out HT.out.lt).below hOn.base (by have := HT.out.lt; have := HBV.out.size; omega)
    clear hOn x0 x1 x2 x3 x4 x5 x6 x7 x8 x9 x10
    go_wp2_with fail
    refine (known_any wc HT3.out).mono ?_
    rintro e w4 ⟨rfl, hB4⟩
    have HO4 : Hid (One V w4 q C (st0 C start) 0) := HO3.out.below hB4
    have HB4 : Hid (Below V.heap.size V w4) := HO4.out.base
    have HTV' : Hid (M.Tab V) := HT.out.below HBV.out HT.out.lt
    clear hB4
    go_wp2_with fail
    go_loopw [15, 16] (fun x i wr => ∃ j : Nat, j ≤ en ∧ x = .int .i64 (Tree.sides es (k : Nat) j : Nat) ∧ i = .int .i64 j ∧ Below w4.heap.size w4 wr) (fun _ i _ => en - (intOf i).toNat)
    case atStart => exact ⟨0, Nat.zero_le _, rfl, rfl, Below.refl _ _⟩
    case round =>
      obtain ⟨j, hj, rfl, rfl, hB⟩ := hrel
      have HB : Hid (Below w4.heap.size w4 wr) := hB
      obtain ⟨x0, x1, x2, x3, x4, x5, x6, x7, x8, x9, x10⟩ := HV.out.1.below (later HB4.out hB)
      simp only at x0 x1 x2 x3 x4 x5 x6 x7 x8 x9 x10
      clear hB
      by_cases hje : j < en
      · obtain ⟨b, off, ha, hcA, hcB⟩ := (HPr.out.below (later HB4.out HB.out)).at hje
        subst ha
        obtain ⟨⟨A, D⟩, hy⟩ : ∃ y, es.getD j (0, 0) = y := ⟨_, rfl⟩
        rw [hy] at hcA hcB
        simp only at hcA hcB
        have HLs : Hid (Tree.sides es (k : Nat) (j + 1) = if A = (k : Nat) ∨ D = (k : Nat) then Tree.sides es (k : Nat) j + 1 else Tree.sides es (k : Nat) j) := by show _ = _; rw [Tree.sides, hy]
        clear hy
        have hle : Tree.sides es (k : Nat) j ≤ j := sides_le es (k : Nat) j
        have hne := Since.any wr
        have c0 := fun m : Since wr => m.cell x0
        have c1 := fun m : Since wr => m.cell x1
        have cA := fun m : Since wr => m.cell hcA
        have cB := fun m : Since wr => m.cell hcB
        obtain ⟨bA, hbA⟩ : ∃ b : Bool, (A == (k : Int)) = b := ⟨_, rfl⟩
        obtain ⟨bB, hbB⟩ : ∃ b : Bool, (D == (k : Int)) = b := ⟨_, rfl⟩
        have HLb : Hid (Tree.sides es (k : Nat) (j + 1) = if bA || bB then Tree.sides es (k : Nat) j + 1 else Tree.sides es (k : Nat) j) := by
          show _ = _
          rw [HLs.out, ← hbA, ← hbB]
          simp only [Bool.or_eq_true, beq_iff_eq]
        clear HLs
        clear x2 x3 x4 x5 x6 x7 x8 x9 x10
        cases bA <;> cases bB
        all_goals (
          simp only [Bool.or_true, Bool.or_false, if_true, Bool.false_eq_true, if_false] at HLb
          go_wp2_with fail
          refine region_since (u := wr) (by kernel_rfl) (by kernel_rfl) (Below.refl _ _) ?_
          repeat (go_big_quiet_step (fail))
          refine wpQuiet_nil ?_
          intro _ hw'
          obtain ⟨nq, hw2⟩ := hw'
          subst hw2
          clear c0 c1 cA cB hne
          go_wp2_with fail
          go_roundw
          case rel => exact ⟨j + 1, by omega, by rw [HLb.out]; first | done | go_num, by go_num, later HB.out nq.h⟩
          case measure => simp [intOf]; omega)
      · obtain ⟨X, hX⟩ : ∃ X, Tree.sides es (k : Nat) j = X := ⟨_, rfl⟩
        have hXB : X = B := by
          have hjj : j = es.length := by omega
          rw [← hX, hjj]
          exact HS.out
        rw [hX, hXB]
        clear hX hXB
        have HO5 : Hid (One V wr q C (idleN C start 0) 0) := HO4.out.below HB.out
        obtain ⟨T, hT⟩ : ∃ T : Nat, (ticks : Int) % 30 = T := ⟨ticks % 30, by omega⟩
        have hT30 : T < 30 := by omega
        go_wp2_with fail
        clear x0 x1 x2 x3 x4 x5 x6 x7 x8 x9 x10
        have hE := HCf.out.2.2.2.2.2.2.2.2.1
        have hE8 := HCf.out.2.2.2.2.2.2.2.2.2.1
        have hB5 := HCf.out.2.2.2.2.2.2.2.2.2.2.2
        have hL1 := HCf.out.2.2.2.2.2.1
        have hL3 := HCf.out.2.2.2.2.2.2.1
        have hE0 : (C.every : Int) ≠ 0 := by omega
        have hE0b : ((C.every : Int) == 0) = false := by simp; omega
        have HBs : Hid (C.bs.length = B) := HCf.out.2.2.2.2.2.2.2.2.2.2.1
        go_loopw [17, 18, 19, 20, 21] (fun t _ _ _ _ wx => ∃ j i : Nat, j = i + 1 ∧ i ≤ T ∧ t = .int .i64 (j : Nat) ∧ One V wx q C (idleN C start i) (40 * i)) (fun t _ _ _ _ _ => T + 1 - (intOf t).toNat)
        case atStart => exact ⟨1, 0, rfl, Nat.zero_le _, rfl, HO5⟩
        case round =>
          obtain ⟨j1, i, hji, hi, rfl, hO⟩ := hrel
          have HJ : Hid (j1 = i + 1) := hji
          have hj30 : j1 ≤ 30 := by omega
          have HO6 : Hid (One V _ q C (idleN C start i) (40 * i)) := hO
          obtain ⟨x0, x1, x2, x3, x4, x5, x6, x7, x8, x9, x10⟩ := HV.out.1.below hO.base
          simp only at x0 x1 x2 x3 x4 x5 x6 x7 x8 x9 x10
          clear hO
          by_cases hiT : j1 ≤ T
          · have hi70 : 40 * i ≤ 70000 := by omega
            clear hji
            go_wp2_with fail
            clear x0 x1 x2 x3 x4 x5 x6 x7 x8 x9 x10
            refine (o_tick HO6.out HTV'.out hi70).mono ?_
            rintro e w7 ⟨v7, G, rfl, hOut, hG, h7⟩
            have HO7 : Hid (One V w7 q C (idleN C start (i + 1)) (40 * i + 40)) := h7
            rw [idleN_out C start i] at hOut
            have hx := HV.out.1.below h7.base
            obtain ⟨x0, x1, x2, x3, x4, x5, x6, x7, x8, x9, x10⟩ := hx
            simp only at x0 x1 x2 x3 x4 x5 x6 x7 x8 x9 x10
            clear h7 hG
            by_cases hm : (i + 1) % C.every = 0
            · rw [if_pos hm] at hOut
              have hz : ((j1 : Int) % (C.every : Int) != 0) = false := by
                rw [← Int.natCast_emod, HJ.out, hm]
                rfl
              obtain ⟨M, hM⟩ : ∃ M, C.bs.length * (2 * C.L) = M := ⟨_, rfl⟩
              have hM30 : M ≤ 30 := by
                rw [← hM, HBs.out]
                have h1 : B * (2 * C.L) ≤ 5 * (2 * C.L) := Nat.mul_le_mul_right _ hB5
                omega
              have hMi : (2 * (B : Int)) * (C.L : Int) = (M : Int) := by
                rw [← hM, HBs.out, Int.natCast_mul, Int.natCast_mul]
                show 2 * (B : Int) * (C.L : Int) = (B : Int) * (2 * (C.L : Int))
                rw [← Int.mul_assoc, Int.mul_comm (B : Int) 2]
              have HAt : Hid (∀ j, j < M → ∃ o, (tellAll C (st0 C start) C.bs.length)[j]? = some (out C o (quietF C start j))) := fun j hj => tellAll_at start hL1 (by rw [hM]; exact hj)
              have hlen : (tellAll C (st0 C start) C.bs.length).length = M := by rw [quiet_all, hM]
              have HOt : Hid (OutsAt w7 G v7 (tellAll C (st0 C start) C.bs.length)) := hOut
              obtain ⟨a7, c7, hv⟩ := hOut.len
              rw [hlen] at hv
              subst hv
              clear hOut hm hM hlen
              go_wp2_with fail
              clear x0 x1 x2 x3 x4 x5 x6 x7 x8 x9 x10
              go_loopw [19, 20, 21] (fun x _ _ wx => ∃ n : Nat, n ≤ M ∧ x = .int .i64 (n : Nat) ∧ Below w7.heap.size w7 wx) (fun x _ _ _ => M - (intOf x).toNat)
              case atStart => exact ⟨0, Nat.zero_le _, rfl, Below.refl _ _⟩
              case round =>
                obtain ⟨n, hn, rfl, hBn⟩ := hrel
                have HBn : Hid (Below w7.heap.size w7 wr) := hBn
                clear hBn
                by_cases hnM : n < M
                · obtain ⟨o, ho⟩ := HAt.out n hnM
                  obtain ⟨g, cp, ad, m8, cap8, e8, hd8, hb8, ho8⟩ := (HOt.out.below HBn.out).at ho
                  have ho9 : o = o := rfl
                  rw [quiet_out ⟨hL1, hL3⟩] at hd8 ho8
                  simp only at ho8
                  simp only [Value.slice.injEq] at e8
                  obtain ⟨e8a, e8b, e8c⟩ := e8
                  subst e8a e8c
                  have HO8 : Hid (Octs wr ad m8 (quietF C start n).enc) := ho8
                  have HM8 : Hid (m8 ≤ 100) := by
                    have h1 := ho8.1
                    have h2 := Wire.enc_long (quietF C start n)
                    show _ ≤ _
                    omega
                  have HDc : Hid (Wire.dec (quietF C start n).enc = some (quietF C start n)) := Wire.dec_enc (quiet_fine ⟨hL1, hL3⟩ n).1 (quiet_fine ⟨hL1, hL3⟩ n).2
                  clear ho8 ho ho9 e8b
                  have hL0 : (C.L : Int) ≠ 0 := by omega
                  have hL0b : ((C.L : Int) == 0) = false := by simp; omega
                  by_cases hev : n % 2 = 0
                  · have HK : Hid (quietF C start n = ⟨3, n / 2 % C.L, start, 0, 0, 0⟩) := quiet_even HSt.out hev
                    obtain ⟨Q, hQ⟩ : ∃ Q, n / 2 % C.L = Q := ⟨_, rfl⟩
                    have hq2 : (n : Int) / 2 % (C.L : Int) = (Q : Nat) := by rw [← hQ]; simp
                    have hQ3 : Q < 3 := by have := Nat.mod_lt (n / 2) (show 0 < C.L by omega); omega
                    have hqw : wrap64 (Q : Int) = (Q : Int) := by unfold wrap64; omega
                    have hev0 : ((n : Int) % 2 == 0) = true := by simp; omega
                    have hev1 : ((n : Int) % 2 == 1) = false := by simp; omega
                    have HDe : Hid (∀ u, Below wr.heap.size wr u → Calls Tryz.prog 17 #[.slice ad m8 cap8] u fun e w' => e = .returned (.tuple #[.agg #[.int .u8 3, .int .u8 (Q : Nat), .int .u16 (start : Nat), .int .u8 0, .int .u8 0, .int .u32 0], .int .i64 0]) ∧ Below u.heap.size u w') := fun u hu => by
                      have h := refDec_any ad m8 cap8 _ u (HO8.out.below hu) HM8.out
                      rw [good_val HDc.out, HK.out] at h
                      unfold fr at h
                      simp only at h
                      rw [hQ] at h
                      skip
                      exact h
                    clear hQ
                    go_wp2_with fail
                    refine Calls.mono (HDe.out _ (Below.refl _ _)) ?_
                    rintro e w9 ⟨rfl, hB9⟩
                    obtain ⟨Z, hZ⟩ : ∃ Z, Z = w9.alloc (.cells #[.int .u8 3, .int .u8 (Q : Nat), .int .u16 (start : Nat), .int .u8 0, .int .u8 0, .int .u32 0] 47) := ⟨_, rfl⟩
                    have HZ : Hid (Below wr.heap.size wr Z) := by rw [hZ]; exact later hB9 (fresh _ _)
                    have z0 : Z.cell? ⟨w9.heap.size, 0, none⟩ = some (.int .u8 3) := by rw [hZ]; simp
                    have z1 : Z.cell? ⟨w9.heap.size, 1, none⟩ = some (.int .u8 (Q : Nat)) := by rw [hZ]; simp
                    have z2 : Z.cell? ⟨w9.heap.size, 2, none⟩ = some (.int .u16 (start : Nat)) := by rw [hZ]; simp
                    clear hB9 hd8 hb8
                    go_upto_region 24 with fail
                    rw [← hZ]
                    clear hZ
                    have HVz : Hid (Below V.heap.size V Z) := later (later HO7.out.base HBn.out) HZ.out
                    have hx := HV.out.1.below HVz.out
                    have hx2 := hx.c2
                    have hx3 := hx.c3
                    simp only at hx2 hx3
                    have hne := Since.any Z
                    have k0 := fun m : Since Z => m.cell z0
                    have k1 := fun m : Since Z => m.cell z1
                    have k2 := fun m : Since Z => m.cell z2
                    have p2 := fun m : Since Z => m.cell hx2
                    have p3 := fun m : Since Z => m.cell hx3
                    clear z0 z1 z2 hx hx2 hx3
                    go_wp2_with fail
                    refine region_since (u := Z) (by kernel_rfl) (by kernel_rfl) (Below.refl _ _) ?_
                    repeat (go_big_quiet_step (fail))
                    refine wpQuiet_nil ?_
                    intro _ hw'
                    obtain ⟨nq, hw2⟩ := hw'
                    subst hw2
                    have HBq : Hid (Below w7.heap.size w7 nq.w) := later (later HBn.out HZ.out) nq.h
                    clear hne k0 k1 k2 p2 p3
                    go_wp2_with fail
                    go_roundw
                    case rel => exact ⟨n + 1, by omega, by go_num, HBq.out⟩
                    case measure => simp [intOf]; omega
                  · have HK : Hid (quietF C start n = ⟨2, n / 2 % C.L, (start + C.room) % 65536, 0, 0, 0⟩) := quiet_odd hev
                    obtain ⟨Q, hQ⟩ : ∃ Q, n / 2 % C.L = Q := ⟨_, rfl⟩
                    have hq2 : (n : Int) / 2 % (C.L : Int) = (Q : Nat) := by rw [← hQ]; simp
                    have hQ3 : Q < 3 := by have := Nat.mod_lt (n / 2) (show 0 < C.L by omega); omega
                    have hqw : wrap64 (Q : Int) = (Q : Int) := by unfold wrap64; omega
                    obtain ⟨sq, hSq⟩ : ∃ sq, (start + C.room) % 65536 = sq := ⟨_, rfl⟩
                    have hev0 : ((n : Int) % 2 == 0) = false := by simp; omega
                    have hev1 : ((n : Int) % 2 == 1) = true := by simp; omega
                    have hw1 : IntKind.u16.wrap (C.room : Int) = (C.room : Int) := by have := HCf.out.2.2.2.2.2.2.2.1; rw [IntKind.wrap_u16]; omega
                    have hw2 : IntKind.u16.wrap ((start : Int) + (C.room : Int)) = (sq : Int) := by rw [IntKind.wrap_u16]; omega
                    have HDe : Hid (∀ u, Below wr.heap.size wr u → Calls Tryz.prog 17 #[.slice ad m8 cap8] u fun e w' => e = .returned (.tuple #[.agg #[.int .u8 2, .int .u8 (Q : Nat), .int .u16 (sq : Nat), .int .u8 0, .int .u8 0, .int .u32 0], .int .i64 0]) ∧ Below u.heap.size u w') := fun u hu => by
                      have h := refDec_any ad m8 cap8 _ u (HO8.out.below hu) HM8.out
                      rw [good_val HDc.out, HK.out] at h
                      unfold fr at h
                      simp only at h
                      rw [hQ] at h
                      rw [hSq] at h
                      exact h
                    clear hQ hSq
                    go_wp2_with fail
                    refine Calls.mono (HDe.out _ (Below.refl _ _)) ?_
                    rintro e w9 ⟨rfl, hB9⟩
                    obtain ⟨Z, hZ⟩ : ∃ Z, Z = w9.alloc (.cells #[.int .u8 2, .int .u8 (Q : Nat), .int .u16 (sq : Nat), .int .u8 0, .int .u8 0, .int .u32 0] 47) := ⟨_, rfl⟩
                    have HZ : Hid (Below wr.heap.size wr Z) := by rw [hZ]; exact later hB9 (fresh _ _)
                    have z0 : Z.cell? ⟨w9.heap.size, 0, none⟩ = some (.int .u8 2) := by rw [hZ]; simp
                    have z1 : Z.cell? ⟨w9.heap.size, 1, none⟩ = some (.int .u8 (Q : Nat)) := by rw [hZ]; simp
                    have z2 : Z.cell? ⟨w9.heap.size, 2, none⟩ = some (.int .u16 (sq : Nat)) := by rw [hZ]; simp
                    clear hB9 hd8 hb8
                    go_upto_region 24 with fail
                    rw [← hZ]
                    clear hZ
                    have HVz : Hid (Below V.heap.size V Z) := later (later HO7.out.base HBn.out) HZ.out
                    have hx := HV.out.1.below HVz.out
                    have hx2 := hx.c2
                    have hx3 := hx.c3
                    simp only at hx2 hx3
                    have hne := Since.any Z
                    have k0 := fun m : Since Z => m.cell z0
                    have k1 := fun m : Since Z => m.cell z1
                    have k2 := fun m : Since Z => m.cell z2
                    have p2 := fun m : Since Z => m.cell hx2
                    have p3 := fun m : Since Z => m.cell hx3
                    clear z0 z1 z2 hx hx2 hx3
                    go_wp2_with fail
                    refine region_since (u := Z) (by kernel_rfl) (by kernel_rfl) (Below.refl _ _) ?_
                    repeat (go_big_quiet_step (fail))
                    refine wpQuiet_nil ?_
                    intro _ hw'
                    obtain ⟨nq, hw2⟩ := hw'
                    subst hw2
                    have HBq : Hid (Below w7.heap.size w7 nq.w) := later (later HBn.out HZ.out) nq.h
                    clear hne k0 k1 k2 p2 p3
                    go_wp2_with fail
                    go_roundw
                    case rel => exact ⟨n + 1, by omega, by go_num, HBq.out⟩
                    case measure => simp [intOf]; omega
                · have HE7 : Hid (One V wr q C (idleN C start (i + 1)) (40 * i + 40)) := HO7.out.below HBn.out
                  go_wp2_with fail
                  go_roundw
                  case rel => exact ⟨j1 + 1, i + 1, by rw [HJ.out], by have := HJ.out; omega, by go_num, HE7.out.mono (by omega)⟩
                  case measure => simp [intOf]; omega
            · rw [if_neg hm] at hOut
              obtain ⟨a7, c7, hv⟩ := hOut.len
              subst hv
              have hz : ((j1 : Int) % (C.every : Int) != 0) = true := by
                rw [← Int.natCast_emod, HJ.out]
                exact bne_iff_ne.2 (fun h => hm (Int.ofNat_eq_zero.1 h))
              clear hOut hm
              go_wp2_with fail
              go_roundw
              case rel => exact ⟨j1 + 1, i + 1, by rw [HJ.out], by have := HJ.out; omega, by go_num, HO7.out.mono (by omega)⟩
              case measure => simp [intOf]; omega
          · have HE : Hid (Below w.heap.size w wr) := later HBV.out HO6.out.base
            clear hji
            go_wp2_with fail
            go_ret
            exact ⟨rfl, HE.out⟩
end Nd
end Go.Proofs.YtniicgbkeifnjaaGreatDoor
