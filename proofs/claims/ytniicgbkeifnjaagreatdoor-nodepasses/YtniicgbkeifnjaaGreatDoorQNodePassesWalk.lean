/-
  The law NodePasses (package shunterlaw16), walked. Conditions: the table behind masks lies as its initialiser lays it.
-/
import Derived.Test.YtniicgbkeifnjaaGreatDoorQ44
import Derived.Test.YtniicgbkeifnjaaGreatDoorQ46
namespace Go.Proofs.YtniicgbkeifnjaaGreatDoor
open Go.ChangeShapes Go.WideShapes Go.ChangeAt Go.RowKit
set_option linter.unusedVariables false
set_option maxRecDepth 100000

namespace Nd
/-- injected so far, and no tick yet -/
def flow0 (c : Cfg) (start : Nat) (l : List Nat) : St := { st0 c start with hL := l.map pkB }
theorem flow0_inj {c : Cfg} (h1 : c.L = 1) (hv : c.v = 0) (hN : c.N = 2) (hq : c.q = 8) {start : Nat} {l : List Nat} (hl : l.length < 8) (b : Nat) : injE c (flow0 c start l) (pkB b) = 0 ∧ inj c (flow0 c start l) (pkB b) = flow0 c start (l ++ [b]) := by
  have hc : (pkB b).s = (c.v : Int) ∧ 0 ≤ (pkB b).d ∧ (pkB b).d < (c.N : Int) ∧ (pkB b).d ≠ (c.v : Int) := by
    rw [hv, hN]
    exact ⟨rfl, by show (0 : Int) ≤ 1; omega, by show (1 : Int) < ((2 : Nat) : Int); omega, by show (1 : Int) ≠ ((0 : Nat) : Int); omega⟩
  unfold injE inj
  rw [if_pos hc, if_pos hc]
  have e : K.Hst.putE c.L c.q (flow0 c start l).hL (pkB b) = 0 := K.Hst.putE_ok (by rw [h1]; show ¬ ((0 : Int) < 0 ∨ ((1 : Nat) : Int) ≤ 0); omega) (by
    show ¬ c.q ≤ (K.Hst.lane (l.map pkB) 0).length
    rw [lane_pk, List.length_map, hq]
    omega)
  refine ⟨e, ?_⟩
  rw [K.Hst.putL_yes e]
  unfold flow0
  rw [List.map_append]
  rfl
theorem flow0_is {c : Cfg} {start : Nat} (l : List Nat) : Flow c start (flow0 c start l) l [] 0 :=
  ⟨rfl, by
    show (fun _ => []) = ductQ []
    funext k
    unfold ductQ
    split <;> rfl, rfl, by show (((start : Nat) : Int), ((start : Nat) : Int) + (c.room : Int)) = _; simp, fun _ => rfl, Nat.zero_le _⟩
theorem us_below {w w' : World} {a : Option Addr} {len : Nat} {us : List Int} (h : Us w a len us) (k : Below w.heap.size w w') : Us w' a len us := by
  obtain ⟨h1, h2, h3⟩ := h
  refine ⟨h1, h2, ?_⟩
  rcases h3 with h3 | ⟨b, off, ha, hc⟩
  · exact .inl h3
  · exact .inr ⟨b, off, ha, fun j hj => (k.cell (p := ⟨b, off + j, none⟩) (cell_lt (hc j hj))).trans (hc j hj)⟩
/-- the plan of this law, at any room -/
theorem mayP : ∀ r : Nat, r < 8 → Plan.may ⟨2, 1, 1 + (r : Int), 8, 1, 8, 64⟩ esK [1] (rsK.map List.length) = true := by decide +kernel
theorem numP : ∀ r : Nat, r < 8 → (Plan.mkNum 0 (56 + r) 0).lanes = 1 ∧ (Plan.mkNum 0 (56 + r) 0).room = 1 + (r : Int) ∧ (Plan.mkNum 0 (56 + r) 0).queue = 8 ∧ (Plan.mkNum 0 (56 + r) 0).rounds = 1 ∧ (Plan.mkNum 0 (56 + r) 0).bag = 64 := by decide +kernel
def cP (r : Nat) : Cfg := ⟨0, 2, 1, 1 + r, 8, 1, 8, Plan.bes esK 0, wayOf esK rsK 0, fun k => ([1] : List Int).getD k 0⟩
theorem cP_duct (r : Nat) : Duct (cP r) := ⟨rfl, by show (Plan.bes esK 0).length + 1 = 2; decide +kernel, rfl, rfl, by show wayOf esK rsK 0 1 = 1; decide +kernel, by show (Plan.bes esK 0).getD (1 - 1) 0 = 1; decide +kernel, by show 1 ≤ 1 + r; omega⟩
theorem new_pass {u : World} {p : PV} (h : PlN u p esK [1] rsK) (hg : ¬ Route.Bad 2 esK rsK) (r start : Nat) (hr : r < 8) (hs : start < 65536) (h1 : p.nodes = 2) (h2 : p.lanes = 1) (h3 : p.room = 1 + (r : Int)) (h4 : p.queue = 8) (h5 : p.rounds = 1) (h6 : p.every = 8) (h7 : p.bag = 64) (h8 : p.start = (start : Nat)) :
    Calls Tryz.prog 11 #[p.val, .int .i64 0] u fun e u' => ∃ q, e = .returned (.pointer (some ⟨q, 0, none⟩)) ∧ One u u' q (cP r) (st0 (cP r) start) 0 := by
  have hm : Plan.may p.num esK [1] (rsK.map List.length) = true := by
    unfold PV.num
    rw [h1, h2, h3, h4, h5, h6, h7]
    exact mayP r hr
  have hb : ¬ Route.Bad p.nodes esK rsK := by rw [h1]; exact hg
  obtain ⟨n, hk⟩ := newok hm hb (v := 0) (by omega) (by omega)
  refine (new_yes h ⟨hm, hb, by omega, by omega⟩ hk).mono ?_
  rintro e u' ⟨q, F, he, hn, hB, hF⟩
  have hc : cfgOf p esK [1] rsK 0 = cP r := by
    unfold cfgOf cP
    rw [h1, h2, h3, h4, h5, h6, show (1 + (r : Int)).toNat = 1 + r by omega]
    rfl
  rw [hc, show p.start.toNat = start by omega] at hn
  exact ⟨q, he, F, hn, hF, hB⟩
set_option maxHeartbeats 8000000 in
set_option maxRecDepth 100000 in
theorem nodePasses_any (w : World) (hT : M.Tab w) (room start : Nat) (h1 : room < 256) (h2 : start < 65536) {a : Option Addr} {n c : Nat} {us : List Int} (ho : Us w a n us) (hu : ∀ x ∈ us, 0 ≤ x ∧ x < 4294967296) :
    Calls Tryz.prog 8 #[.int .u8 (room : Nat), .int .u16 (start : Nat), .slice a n c] w fun e w' => e = .returned (.bool true) ∧ Below w.heap.size w w' := by
  have HT : Hid (M.Tab w) := hT
  have HU : Hid (Us w a n us) := ho
  have HUb : Hid (∀ x ∈ us, 0 ≤ x ∧ x < 4294967296) := hu
  have hn0 : n ≤ 140737488351232 := ho.2.1
  have hul := ho.1
  clear hT ho hu
  obtain ⟨r, hr⟩ : ∃ r : Nat, (room : Int) % 8 = r := ⟨room % 8, by omega⟩
  have hr8 : r < 8 := by omega
  go_enter Tryz.func8, Tryz.ntmps8
  by_cases hn8 : 8 < n
  · go_wp2_with fail
    refine (known_any w HT.out).mono ?_
    rintro e w4 ⟨rfl, hB4⟩
    have HE : Hid (Below w.heap.size w w4) := hB4
    clear hB4
    go_wp2_with fail
    go_ret
    exact ⟨rfl, HE.out⟩
  · go_wp2_with fail
    refine (known_any w HT.out).mono ?_
    rintro e w0 ⟨rfl, hB0⟩
    have HB0 : Hid (Below w.heap.size w w0) := hB0
    clear hB0
    have HU0 : Hid (Us w a n us) := HU.out
    clear HU
    obtain ⟨R8, hR8⟩ : ∃ R8 : Nat, 56 + r = R8 := ⟨_, rfl⟩
    have hR8b : R8 < 256 := by omega
    have hR8w : IntKind.u8.wrap (56 + (r : Int)) = (R8 : Nat) := by rw [IntKind.wrap_u8]; omega
    obtain ⟨W, hW⟩ : ∃ W, W = w0.alloc (.cells #[.int .u8 0] 5) := ⟨_, rfl⟩
    have HO : Hid (Octs W (some ⟨w0.heap.size, 0, none⟩) 1 [0] ∧ Below w0.heap.size w0 W) := by
      rw [hW]
      refine ⟨⟨rfl, by unfold maxLen; omega, fun x hx => by simp at hx; omega, .inr ⟨w0.heap.size, 0, rfl, by simp, fun i hi => ?_⟩⟩, fresh _ _⟩
      have : i = 0 := by omega
      subst this
      simp
    go_wp2_with fail
    rw [← hW]
    clear hW
    refine (show Calls Tryz.prog 10 #[.slice (some ⟨w0.heap.size, 0, none⟩) 1 1, .int .u8 (R8 : Nat), .int .u8 0, .int .u16 (start : Nat)] W _ from plan_any HO.out.1 R8 0 start hR8b (by omega) h2).mono ?_
    rintro e w1 ⟨p, rfl, hTP, hB1⟩
    obtain ⟨t1, t2, t3, t4⟩ := treeK
    obtain ⟨n1, n2, n3, n4, n6⟩ := numP r hr8
    rw [hR8] at n1 n2 n3 n4 n6
    have hnd := hTP.nodes
    have hst := hTP.start
    obtain ⟨m1, m2, m3, m4, m5, m6⟩ := hTP.nums
    rw [n1] at m1
    rw [n2] at m2
    rw [n3] at m3
    rw [n4] at m4
    rw [n6] at m6
    rw [t4] at hnd
    have hpl := hTP.pln
    have hgd := hTP.good
    rw [t1, t2, t3] at hpl
    rw [t1, t2] at hgd
    obtain ⟨Rm, hRm⟩ : ∃ Rm : Nat, 1 + r = Rm := ⟨_, rfl⟩
    have hRm8 : 1 ≤ Rm ∧ Rm ≤ 8 := by omega
    rw [show (1 + (r : Int)) = (Rm : Int) by omega] at m2
    obtain ⟨nodes, lanes, room', queue, rounds, every, bag, start', ea, en, ec, wa, wn, wc, na, nn, nc⟩ := p
    simp only at hnd hst m1 m2 m3 m4 m5 m6 hgd
    clear m5
    subst hnd hst m1 m2 m3 m4 m6
    have HP0 : Hid (PlN w1 ⟨2, 1, (Rm : Nat), 8, 1, every, 64, (start : Nat), ea, en, ec, wa, wn, wc, na, nn, nc⟩ esK [1] rsK) := hpl
    have HG : Hid (¬ Route.Bad 2 esK rsK) := hgd
    have HB1 : Hid (Below w.heap.size w w1) := later (later HB0.out HO.out.2) hB1
    clear hTP hB1 hpl hgd t1 t2 t3 t4 n1 n2 n3 n4 n6
    obtain ⟨R, hR⟩ : ∃ R, w1.heap.size = R := ⟨_, rfl⟩
    obtain ⟨V, hV⟩ : ∃ V, V = w1.alloc (PV.obj ⟨2, 1, (Rm : Nat), 8, 1, every, 64, (start : Nat), ea, en, ec, wa, wn, wc, na, nn, nc⟩) := ⟨_, rfl⟩
    have HV : Hid (Bx V R ⟨2, 1, (Rm : Nat), 8, 1, every, 64, (start : Nat), ea, en, ec, wa, wn, wc, na, nn, nc⟩ ∧ Below w1.heap.size w1 V ∧ R < V.heap.size) := by rw [hV, ← hR]; exact ⟨bx_new _ _, fresh _ _, by simp⟩
    simp only [PV.obj] at hV
    simp only [PV.val]
    go_upto_region 4 with fail
    rw [← hV]
    clear hV
    have k6 := HV.out.1.x.c6
    have k6f := HV.out.1.f 6
    simp only at k6
    obtain ⟨U, hU⟩ : ∃ U, U = V.setCell ⟨R, 6, none⟩ (.int .i64 8) := ⟨_, rfl⟩
    have HU : Hid (Below w1.heap.size w1 U ∧ Bxd U R ⟨2, 1, (Rm : Nat), 8, 1, 8, 64, (start : Nat), ea, en, ec, wa, wn, wc, na, nn, nc⟩) := by
      have S : Sans (fun j => j = R) V U := by rw [hU]; exact Sans.of_set _ _ _ rfl
      have hb := HV.out.2.1.size
      refine ⟨HV.out.2.1.trans (S.below (B := w1.heap.size) hb (fun j e => by omega)), ?_⟩
      obtain ⟨y0, y1, y2, y3, y4, y5, y6, y7, y8, y9, y10⟩ := HV.out.1.x
      rw [hU]
      exact ⟨cell_set y0 (by omega), cell_set y1 (by omega), cell_set y2 (by omega), cell_set y3 (by omega), cell_set y4 (by omega), cell_set y5 (by omega), World.cell?_setCell_same _ _ _ y6, cell_set y7 (by omega), cell_set y8 (by omega), cell_set y9 (by omega), cell_set y10 (by omega)⟩
    clear hR
    go_upto_region 5 with fail
    rw [← hU]
    clear hU k6 k6f
    have HPU : Hid (PlN U ⟨2, 1, (Rm : Nat), 8, 1, 8, 64, (start : Nat), ea, en, ec, wa, wn, wc, na, nn, nc⟩ esK [1] rsK) := PlN.every (HP0.out.below HU.out.1) 8 (by unfold I64; omega)
    have HBU : Hid (Below w.heap.size w U) := later HB1.out HU.out.1
    obtain ⟨C, hC⟩ : ∃ C, cP r = C := ⟨_, rfl⟩
    have HA : Hid (Calls Tryz.prog 11 #[.agg #[.int .i64 2, .slice ea en ec, .int .i64 1, .int .i64 (Rm : Nat), .int .i64 8, .int .i64 1, .int .i64 8, .int .i64 64, .slice wa wn wc, .int .u16 (start : Nat), .slice na nn nc], .int .i64 0] U fun e u' => ∃ q, e = .returned (.pointer (some ⟨q, 0, none⟩)) ∧ One U u' q C (st0 C start) 0) := by
      have hh := new_pass HPU.out HG.out r start hr8 h2 rfl rfl (by show ((Rm : Nat) : Int) = _; omega) rfl rfl rfl rfl rfl
      unfold PV.val at hh
      simp only at hh
      rw [hC] at hh
      exact hh
    have HC : Hid (Duct C ∧ C.v = 0 ∧ C.N = 2 ∧ C.q = 8 ∧ C.room = Rm) := by rw [← hC]; exact ⟨cP_duct r, rfl, rfl, rfl, hRm⟩
    clear hC hRm
    obtain ⟨x0, x1, x2, x3, x4, x5, x6, x7, x8, x9, x10⟩ := HU.out.2
    simp only at x0 x1 x2 x3 x4 x5 x6 x7 x8 x9 x10
    go_wp2_with fail
    refine Calls.mono HA.out ?_
    rintro e w2 ⟨q, rfl, h2'⟩
    have HO2 : Hid (One U w2 q C (flow0 C start []) 0) := h2'
    have HTU : Hid (M.Tab U) := HT.out.below HBU.out HT.out.lt
    clear h2' x0 x1 x2 x3 x4 x5 x6 x7 x8 x9 x10
    obtain ⟨bs, hbs⟩ : ∃ bs : List Nat, us = bs.map fun b => ((b : Nat) : Int) := ⟨us.map Int.toNat, by
      rw [List.map_map]
      refine (List.map_id us).symm.trans (List.map_congr_left fun x hx => ?_)
      have := HUb.out x hx
      show x = ((x.toNat : Nat) : Int)
      omega⟩
    have hbl : bs.length = n := by rw [← hul, hbs, List.length_map]
    have HBb : Hid (∀ j, j < n → bs.getD j 0 < 4294967296 ∧ us.getD j 0 = ((bs.getD j 0 : Nat) : Int)) := fun j hj => by
      have e : us.getD j 0 = ((bs.getD j 0 : Nat) : Int) := by
        rw [hbs, List.getD_eq_getElem?_getD, List.getElem?_map, List.getD_eq_getElem?_getD, List.getElem?_eq_getElem (by omega)]
        rfl
      have hm : us.getD j 0 ∈ us := by
        rw [List.getD_eq_getElem?_getD, List.getElem?_eq_getElem (by omega)]
        exact List.getElem_mem _
      have := HUb.out _ hm
      rw [e] at this
      exact ⟨by omega, e⟩
    have HUw : Hid (∀ u, Below U.heap.size U u → Us u a n us) := fun u hu => us_below HU0.out (later HBU.out hu)
    clear hbs
    go_wp2_with fail
    go_loopw [9] (fun i wr => ∃ j : Nat, j ≤ n ∧ i = .int .i64 (j : Nat) ∧ One U wr q C (flow0 C start (bs.take j)) j) (fun i _ => n - (intOf i).toNat)
    case atStart => exact ⟨0, Nat.zero_le _, rfl, HO2.out⟩
    case round =>
      obtain ⟨j, hj, rfl, hOj⟩ := hrel
      have HOj : Hid (One U wr q C (flow0 C start (bs.take j)) j) := hOj
      clear hOj
      by_cases hjn : j < n
      · obtain ⟨b, off, ha, hc⟩ := (HUw.out wr HOj.out.base).at hjn
        obtain ⟨hb1, hb2⟩ := HBb.out j hjn
        obtain ⟨B, hB⟩ : ∃ B, bs.getD j 0 = B := ⟨_, rfl⟩
        rw [hb2, hB] at hc
        rw [hB] at hb1
        subst ha
        have HIn : Hid (∀ u, One U u q C (flow0 C start (bs.take j)) j → Calls Tryz.prog 13 #[.pointer (some ⟨q, 0, none⟩), .agg #[.int .i64 0, .int .i64 1, .int .i64 0, .int .u32 (B : Nat)]] u fun e u' => e = .returned (.int .u16 0) ∧ One U u' q C (flow0 C start (bs.take (j + 1))) (j + 1)) := fun u hu => by
          have h := o_inject hu (pkB B) (by show 0 ≤ ((B : Nat) : Int) ∧ ((B : Nat) : Int) < 4294967296; omega)
          obtain ⟨e1, e2⟩ := flow0_inj HC.out.1.L HC.out.2.1 HC.out.2.2.1 HC.out.2.2.2.1 (start := start) (l := bs.take j) (by rw [List.length_take]; omega) B
          rw [e1, e2, show bs.take j ++ [B] = bs.take (j + 1) by rw [List.take_succ_eq_append_getElem (by omega), ← hB, List.getD_eq_getElem?_getD, List.getElem?_eq_getElem (by omega)]; rfl] at h
          exact h
        clear hb1 hb2 hB
        go_wp2_with fail
        refine Calls.mono (HIn.out _ HOj.out) ?_
        rintro e w3 ⟨rfl, h3⟩
        have HO3 : Hid (One U w3 q C (flow0 C start (bs.take (j + 1))) (j + 1)) := h3
        clear h3 hc
        go_wp2_with fail
        go_roundw
        case rel => exact ⟨j + 1, by omega, by go_num, HO3.out⟩
        case measure => simp [intOf]; omega
      · have HOn : Hid (One U wr q C (flow0 C start bs) n) := by
          have h := HOj.out
          rw [show j = n by omega, List.take_of_length_le (by omega)] at h
          exact h
        go_wp2_with fail
        go_loopw [10, 11, 12, 13, 14] (fun x10 x11 _ _ _ wx => ∃ (t d : Nat) (h qs : List Nat) (s : St), t ≤ 7 ∧ x10 = .int .i64 (d : Nat) ∧ x11 = .int .i64 (t : Nat) ∧ One U wx q C s (8 + 40 * t) ∧ Flow C start s h qs d ∧ s.k = t ∧ qs ++ h = bs.drop d) (fun _ x11 _ _ _ _ => 7 - (intOf x11).toNat)
        case atStart => exact ⟨0, 0, bs, [], flow0 C start bs, by omega, rfl, rfl, HOn.out.mono (by omega), flow0_is bs, rfl, rfl⟩
        case round =>
          obtain ⟨t, d, h, qs, s, ht7, rfl, rfl, hO, hF, hsk, hqh⟩ := hrel
          have HOt : Hid (One U wr q C s (8 + 40 * t)) := hO
          have HF : Hid (Flow C start s h qs d ∧ s.k = t ∧ qs ++ h = bs.drop d) := ⟨hF, hsk, hqh⟩
          have hdR : d ≤ Rm := by have := hF.dn; rw [HC.out.2.2.2.2] at this; exact this
          obtain ⟨x0, x1, x2, x3, x4, x5, x6, x7, x8, x9, x10⟩ := HU.out.2.below hO.base
          simp only at x0 x1 x2 x3 x4 x5 x6 x7 x8 x9 x10
          clear hO hF hsk hqh
          by_cases ht : t < 7
          · go_wp2_with fail
            clear x0 x1 x2 x3 x4 x5 x6 x7 x8 x9 x10
            refine (o_tick HOt.out HTU (by omega)).mono ?_
            rintro e w7 ⟨v7, G, rfl, hOut, hG, h7⟩
            obtain ⟨k1, h', q', hif⟩ := flow_tick HC.out.1 HF.out.1 (by rw [HF.out.2.1]; exact ht)
            obtain ⟨S, hS⟩ : ∃ S, (tick C s).1 = S := ⟨_, rfl⟩
            obtain ⟨O, hOO⟩ : ∃ O, (tick C s).2 = O := ⟨_, rfl⟩
            rw [hS] at h7 k1 hif
            rw [hOO] at hOut hif
            rw [HF.out.2.1] at k1
            rw [HF.out.2.2, HC.out.2.2.2.2] at hif
            have HO7 : Hid (One U w7 q C S (8 + 40 * t + 40)) := h7
            have HK1 : Hid (S.k = t + 1) := k1
            have x3 := (HU.out.2.below h7.base).c3
            simp only at x3
            clear h7 hG hS hOO k1
            by_cases hd : d < min n Rm
            · have hdn : d < n := by omega
              have hdr : d < Rm := by omega
              have hdI : decide ((d : Int) < min (n : Int) (Rm : Int)) = true := decide_eq_true (by omega)
              obtain ⟨B, hB⟩ : ∃ B, bs.getD d 0 = B := ⟨_, rfl⟩
              obtain ⟨hb1, hb2⟩ := HBb.out d hdn
              have hdd : bs.drop d = B :: bs.drop (d + 1) := by
                rw [List.drop_eq_getElem_cons (by omega), ← hB, List.getD_eq_getElem?_getD, List.getElem?_eq_getElem (by omega)]
                rfl
              rw [if_pos ⟨hdr, by rw [hdd]; exact List.cons_ne_nil _ _⟩, hdd] at hif
              have HN : Hid (Flow C start S h' q' (d + 1) ∧ q' ++ h' = bs.drop (d + 1)) := ⟨hif.1, hif.2.1⟩
              rw [hif.2.2] at hOut
              rw [hB] at hb1 hb2
              obtain ⟨g, cp, ad, m8, cap8, e8, hd8, hb8, ho8⟩ := hOut.at (j := 0) rfl
              rw [show (0 : Nat) * 2 = 0 from rfl] at hd8 hb8
              rw [Nat.zero_add] at hb8
              simp only [List.headD_cons] at ho8
              have ho9 : Octs w7 ad m8 (flowF start d B).enc := by
                have h9 := ho8
                unfold out at h9
                rw [if_pos (flow_fine hb1).2] at h9
                exact h9
              simp only [List.length_singleton] at e8
              subst e8
              have HO8 : Hid (Octs w7 ad m8 (flowF start d B).enc) := ho9
              have HM8 : Hid (m8 ≤ 100) := by
                have h1 := ho9.1
                have h2 := Wire.enc_long (flowF start d B)
                show _ ≤ _
                omega
              obtain ⟨sq, hSq⟩ : ∃ sq, (start + d) % 65536 = sq := ⟨_, rfl⟩
              have HK : Hid (flowF start d B = ⟨1, 0, sq, 0, 1, B⟩) := by
                show _ = _
                unfold flowF dataF pkB
                rw [show ((((start : Nat) : Int) + (d : Int)) % 65536).toNat = sq by omega]
                rfl
              have HDe : Hid (∀ u, Below w7.heap.size w7 u → Calls Tryz.prog 17 #[.slice ad m8 cap8] u fun e w' => e = .returned (.tuple #[.agg #[.int .u8 1, .int .u8 0, .int .u16 (sq : Nat), .int .u8 0, .int .u8 1, .int .u32 (B : Nat)], .int .i64 0]) ∧ Below u.heap.size u w') := fun u hu => by
                have h := refDec_any ad m8 cap8 _ u (HO8.out.below hu) HM8.out
                rw [good_val (Wire.dec_enc (flow_fine hb1).1 (flow_fine hb1).2), HK.out] at h
                unfold fr at h
                simp only at h
                exact h
              have hw1 : IntKind.u16.wrap (d : Int) = (d : Int) := by rw [IntKind.wrap_u16]; omega
              have hw2 : IntKind.u16.wrap ((start : Int) + (d : Int)) = (sq : Int) := by rw [IntKind.wrap_u16]; omega
              clear hif hOut hSq hdd hB ho8 ho9
              go_wp2_with fail
              refine Calls.mono (HDe.out _ (Below.refl _ _)) ?_
              rintro e w9 ⟨rfl, hB9⟩
              obtain ⟨Z, hZ⟩ : ∃ Z, Z = w9.alloc (.cells #[.int .u8 1, .int .u8 0, .int .u16 (sq : Nat), .int .u8 0, .int .u8 1, .int .u32 (B : Nat)] 47) := ⟨_, rfl⟩
              have HZ : Hid (Below w7.heap.size w7 Z) := by rw [hZ]; exact later hB9 (fresh _ _)
              have z2 : Z.cell? ⟨w9.heap.size, 2, none⟩ = some (.int .u16 (sq : Nat)) := by rw [hZ]; simp
              have z3 : Z.cell? ⟨w9.heap.size, 3, none⟩ = some (.int .u8 0) := by rw [hZ]; simp
              have z4 : Z.cell? ⟨w9.heap.size, 4, none⟩ = some (.int .u8 1) := by rw [hZ]; simp
              have z5 : Z.cell? ⟨w9.heap.size, 5, none⟩ = some (.int .u32 (B : Nat)) := by rw [hZ]; simp
              clear hB9 hd8 hb8 x3
              go_upto_region 22 with fail
              rw [← hZ]
              clear hZ
              obtain ⟨bb, boff, hba, hbc⟩ := (HUw.out Z (later HO7.out.base HZ.out)).at hdn
              rw [hb2] at hbc
              subst hba
              have hne := Since.any Z
              have k2 := fun m : Since Z => m.cell z2
              have k3 := fun m : Since Z => m.cell z3
              have k4 := fun m : Since Z => m.cell z4
              have k5 := fun m : Since Z => m.cell z5
              have kb := fun m : Since Z => m.cell hbc
              clear z2 z3 z4 z5 hbc hb2
              go_wp2_with fail
              refine region_since (u := Z) (by kernel_rfl) (by kernel_rfl) (Below.refl _ _) ?_
              repeat (go_big_quiet_step (fail))
              refine wpQuiet_nil ?_
              intro _ hw'
              obtain ⟨nq, hw2'⟩ := hw'
              subst hw2'
              have HBq : Hid (Below w7.heap.size w7 nq.w) := later HZ.out nq.h
              clear hne k2 k3 k4 k5 kb
              have HO9 : Hid (One U nq.w q C S (8 + 40 * t + 40)) := HO7.out.below HBq.out
              go_wp2_with fail
              go_roundw
              case rel => exact ⟨t + 1, d + 1, h', q', S, by omega, by go_num, by go_num, HO9.out.mono (by omega), HN.out.1, HK1.out, HN.out.2⟩
              case measure => simp [intOf]; omega
            · rw [if_neg (fun hh => hd (by
                have h1 := hh.1
                have h2 : d < bs.length := by
                  rcases Nat.lt_or_ge d bs.length with h3 | h3
                  · exact h3
                  · exact absurd (List.drop_eq_nil_of_le h3) hh.2
                omega))] at hif
              have HN : Hid (Flow C start S h' q' d ∧ q' ++ h' = bs.drop d) := ⟨hif.1, hif.2.1⟩
              rw [hif.2.2] at hOut
              obtain ⟨a7, c7, hv⟩ := hOut.len
              subst hv
              have hdI : decide ((d : Int) < min (n : Int) (Rm : Int)) = false := decide_eq_false (by omega)
              clear hif hOut
              go_wp2_with fail
              go_roundw
              case rel => exact ⟨t + 1, d, h', q', S, by omega, rfl, by go_num, HO7.out.mono (by omega), HN.out.1, HK1.out, HN.out.2⟩
              case measure => simp [intOf]; omega
          · obtain ⟨xs, hxs, hsd⟩ := one_sender HOt.out (i := 1) (l := 0) (Nat.le_refl _) (by rw [HC.out.1.P]; omega) (by rw [HC.out.1.L]; omega)
            rw [HF.out.1.sn] at hxs
            simp only at hxs
            obtain ⟨sd, hsd'⟩ : ∃ sd : Nat, start + d = sd := ⟨_, rfl⟩
            rw [show ((start : Nat) : Int) + (d : Int) = (sd : Int) by omega] at hxs
            have HSd : Hid (Calls Tryz.prog 27 #[.pointer (some ⟨q, 0, none⟩), .int .i64 1, .int .i64 0] wr fun e u' => e = .returned (.pointer (some ⟨xs, 0, none⟩)) ∧ Below wr.heap.size wr u') := hsd _ (Below.refl _ _)
            have HXs : Hid (Cr.Snd wr xs (sd : Nat) (((start : Nat) : Int) + (C.room : Int))) := hxs
            have HEt : Hid (Below w.heap.size w wr) := later HBU.out HOt.out.base
            have hw3 : IntKind.u64.wrap (d : Int) = (d : Int) := by rw [IntKind.wrap_u64]; omega
            have hw4 : IntKind.u64.wrap ((start : Int) + (d : Int)) = (sd : Int) := by rw [IntKind.wrap_u64]; omega
            clear hxs hsd hsd' x0 x1 x2 x3 x4 x5 x6 x7 x8 x9 x10
            go_wp2_with fail
            refine Calls.mono HSd.out ?_
            rintro e wa ⟨rfl, hBa⟩
            have HBa : Hid (Below wr.heap.size wr wa) := hBa
            clear hBa
            go_wp2_with fail
            refine (Cr.ssent_any (HXs.out.below HBa.out)).mono ?_
            rintro e wb ⟨rfl, rfl⟩
            have HE : Hid (Below w.heap.size w wb) := later HEt.out HBa.out
            go_wp2_with fail
            go_ret
            exact ⟨rfl, HE.out⟩
end Nd
end Go.Proofs.YtniicgbkeifnjaaGreatDoor
