/-
  Contracts and plain facts that the walks lean on (PlanMakeN, RouteUpd, RouteSpec). Conditions: none but those that each states.
-/
import Derived.Test.YtniicgbkeifnjaaGreatDoorQ28
namespace Go.Proofs.YtniicgbkeifnjaaGreatDoor
open Go.ChangeShapes Go.WideShapes Go.ChangeAt Go.RowKit
set_option linter.unusedVariables false
set_option maxRecDepth 100000
structure Made (base : Nat) (p : PV) (es : List (Int × Int)) (ws : List Int) (rs : List (List Int)) (w : World) : Prop where
  he : w.ownsRow base 43 2 (.slice p.ea p.en p.ec) es.length (pcells es)
  hw : w.ownsRow base 3 1 (.slice p.wa p.wn p.wc) ws.length (zcells ws)
  hn : ∃ vs gs, Rw w base (.slice p.na p.nn p.nc) rs.length rs vs gs ∧ ∀ g ∈ gs, (Value.slice p.ea p.en p.ec).ownBlock ≠ some g ∧ (Value.slice p.wa p.wn p.wc).ownBlock ≠ some g
theorem Made.pln {base : Nat} {p : PV} {es : List (Int × Int)} {ws : List Int} {rs : List (List Int)} {w : World} (h : Made base p es ws rs w) (h1 : es.length ≤ 100) (h2 : ws.length ≤ 100) (h3 : rs.length ≤ 100) (ei : ∀ x ∈ es, I64 x.1 ∧ I64 x.2) (wi : ∀ x ∈ ws, I64 x) (ni : ∀ r ∈ rs, ∀ x ∈ r, I64 x) (qi : I64 p.nodes ∧ I64 p.lanes ∧ I64 p.room ∧ I64 p.queue ∧ I64 p.rounds ∧ I64 p.every ∧ I64 p.bag) : PlN w p es ws rs ∧ (p.ea = none → p.ec = 0) ∧ (p.wa = none → p.wc = 0) ∧ (p.na = none → p.nc = 0) ∧ p.en = es.length ∧ p.wn = ws.length ∧ p.nn = rs.length := by
  obtain ⟨vs, gs, hv, _⟩ := h.hn
  obtain ⟨a1, c1, e1, z1, l1, m1, n1, _⟩ := pr_of_owns h.he
  obtain ⟨a2, c2, e2, z2, l2, m2, n2, _⟩ := zr_of_owns h.hw
  obtain ⟨a3, c3, e3, z3, l3, m3, n3, _⟩ := mr_of_rb hv.rb
  simp only [Value.slice.injEq] at e1 e2 e3
  obtain ⟨e1, e1', e1''⟩ := e1
  obtain ⟨e2, e2', e2''⟩ := e2
  obtain ⟨e3, e3', e3''⟩ := e3
  subst e1 e1'' e2 e2'' e3 e3''
  rw [← e1'] at z1 l1
  rw [← e2'] at z2 l2
  rw [← e3'] at z3 l3
  exact ⟨⟨⟨z1, z2, z3.lr, by omega, by omega, by omega, ⟨l1, m1⟩, ⟨l2, m2⟩, ⟨l3, m3⟩, ei, wi, qi⟩, z3, ni⟩, n1, n2, n3, e1', e2', e3'⟩
set_option maxHeartbeats 16000000 in
set_option maxRecDepth 100000 in
theorem makeN_any {w : World} (nodes room more J : Nat) (h1 : nodes < 256) (h2 : room < 256) (h3 : more < 256) (h4 : J < 65536) {a : Option Addr} {n c : Nat} {l : List Nat} (ho : Octs w a n l) :
    Calls Tryz.prog 23 #[.int .u8 (nodes : Nat), .int .u8 (room : Nat), .int .u8 (more : Nat), .int .u16 (J : Nat), .slice a n c] w fun e w' => ∃ p : PV, e = .returned p.val ∧ p.num = Plan.mkNum nodes room more ∧ p.start = (J : Nat) ∧ Made w.heap.size p (Plan.full J (Plan.mkN nodes)) (Plan.mkW more (Plan.mkL more)) (Route.mkRows (Plan.mkN nodes) l) w' ∧ Below w.heap.size w w' := by
  have HO : Hid (Octs w a n l) := ho
  clear ho
  obtain ⟨hN1, hN2⟩ := Plan.mkN_b nodes
  have hL1 : 1 ≤ Plan.mkL more := by unfold Plan.mkL; omega
  have hL2 : Plan.mkL more ≤ 3 := by unfold Plan.mkL; omega
  have eN : (2 + (nodes : Int) % 5) = (Plan.mkN nodes : Nat) := by unfold Plan.mkN; omega
  have eL : (1 + (more : Int) % 3) = (Plan.mkL more : Nat) := by unfold Plan.mkL; omega
  have HM : Hid (Plan.mkNum nodes room more = ⟨(Plan.mkN nodes : Nat), (Plan.mkL more : Nat), 1 + (room : Int) % 8, 1 + (room : Int) / 8 % 8, 1 + (more : Int) / 3 % 4, 1 + (more : Int) / 12 % 8, 64⟩) := by
    show _ = _
    unfold Plan.mkNum
    simp
  have HI : Hid ((0 ≤ 1 + (room : Int) % 8 ∧ 1 + (room : Int) % 8 ≤ 300) ∧ (0 ≤ 1 + (room : Int) / 8 % 8 ∧ 1 + (room : Int) / 8 % 8 ≤ 300) ∧ (0 ≤ 1 + (more : Int) / 3 % 4 ∧ 1 + (more : Int) / 3 % 4 ≤ 300) ∧ (0 ≤ 1 + (more : Int) / 12 % 8 ∧ 1 + (more : Int) / 12 % 8 ≤ 300)) := by
    refine ⟨⟨?_, ?_⟩, ⟨?_, ?_⟩, ⟨?_, ?_⟩, ?_, ?_⟩ <;> omega
  have HST := mk_start w ⟨2 + (nodes : Int) % 5, 1 + (more : Int) % 3, 1 + (room : Int) % 8, 1 + (room : Int) / 8 % 8, 1 + (more : Int) / 3 % 4, 1 + (more : Int) / 12 % 8, 64, (J : Nat), none, 0, 0, none, 0, 0, none, 0, 0⟩
  have HS0 : Hid _ := HST
  clear HST
  simp only [PV.obj, pz] at HS0
  go_enter Tryz.func23, Tryz.ntmps23
  clear eN eL hN1 hN2 hL1 hL2
  go_wp2_with fail
  have eN : (2 + (nodes : Int) % 5) = (Plan.mkN nodes : Nat) := by unfold Plan.mkN; omega
  have eL : (1 + (more : Int) % 3) = (Plan.mkL more : Nat) := by unfold Plan.mkL; omega
  obtain ⟨hN1, hN2⟩ := Plan.mkN_b nodes
  have hL1 : 1 ≤ Plan.mkL more := by unfold Plan.mkL; omega
  have hL2 : Plan.mkL more ≤ 3 := by unfold Plan.mkL; omega
  rw [eN, eL] at HS0
  rw [eN, eL]
  generalize (w.alloc _).alloc _ = W1 at HS0 ⊢
  generalize 1 + (room : Int) % 8 = r3 at HS0 HM HI ⊢
  generalize 1 + (room : Int) / 8 % 8 = r4 at HS0 HM HI ⊢
  generalize 1 + (more : Int) / 3 % 4 = r5 at HS0 HM HI ⊢
  generalize 1 + (more : Int) / 12 % 8 = r6 at HS0 HM HI ⊢
  clear eN eL
  generalize hNe : Plan.mkN nodes = N at HS0 HM hN1 hN2 ⊢
  generalize hLe : Plan.mkL more = L at HS0 HM hL1 hL2 ⊢
  have HNe : Hid (Plan.mkN nodes = N ∧ Plan.mkL more = L) := ⟨hNe, hLe⟩
  clear hNe hLe
  have hW1 : W1.heap.size = w.heap.size + 2 := HS0.out.2.2.2
  go_loopw [12] (fun i wr => ∃ (k : Nat) (wa : Option Addr) (wc : Nat), k ≤ L ∧ i = .int .i64 k ∧ Bx wr (w.heap.size + 1) ⟨(N : Nat), (L : Nat), r3, r4, r5, r6, 64, (J : Nat), none, 0, 0, wa, k, wc, none, 0, 0⟩ ∧ wr.ownsRow W1.heap.size 3 1 (.slice wa k wc) (Plan.mkW more k).length (zcells (Plan.mkW more k)) ∧ Sans (fun j => j = w.heap.size + 1) W1 wr) (fun i _ => L - (intOf i).toNat)
  case atStart => exact ⟨0, none, 0, Nat.zero_le _, rfl, HS0.out.1, World.ownsRow_nil _ _ _ _, Sans.refl _ _⟩
  case round =>
    obtain ⟨k, wa, wc, hk, rfl, hX, hO, hS⟩ := hrel
    have HX : Hid (Bx wr (w.heap.size + 1) ⟨(N : Nat), (L : Nat), r3, r4, r5, r6, 64, (J : Nat), none, 0, 0, wa, k, wc, none, 0, 0⟩) := hX
    have HOw : Hid (wr.ownsRow W1.heap.size 3 1 (.slice wa k wc) (Plan.mkW more k).length (zcells (Plan.mkW more k))) := hO
    have HS : Hid (Sans (fun j => j = w.heap.size + 1) W1 wr) := hS
    have hsz := hS.size
    have hc2 := hX.x.c2
    have hc8 := hX.x.c8
    simp only at hc2 hc8
    clear hX hO hS
    by_cases hkn : k < L
    · have hlen := Plan.mkW_len more k
      have HA : Hid (Plan.mkW more k ++ [1 + ((k : Int) + (more : Int)) % 5] = Plan.mkW more (k + 1)) := by
        show _ = _
        rw [Plan.mkW_succ]
        simp
      go_wp2_with (at_builtin; refine wpList_append_z rfl (.tmp 57) (.tmp 64) rfl W1.heap.size (.slice wa k wc) (Plan.mkW more k) rfl (owns_below HOw.out (fresh _ _)) (by simp; omega) _ 1 _ [1 + ((k : Int) + (more : Int)) % 5] rfl (zr_one wr _) (fun e => by cases e) (by omega) _ HA.out ?_; intro v' w2 hown hB2; have hX2 := (HX.out.below (fresh wr _) (by omega)).below hB2 (by omega); have q8 := hX2.x.c8; have f8 := hX2.f 8; simp only at q8; obtain ⟨a', cap', hv', _⟩ := zr_of_owns hown; rw [Plan.mkW_len] at hv'; subst hv'; have HX2 := hX2; clear hX2)
      go_roundw
      case rel =>
        have R1 := HX2.setW a' (k + 1) cap'
        have R2 := owns_sans hown (Sans.of_set (F := fun j => j = w.heap.size + 1) w2 ⟨w.heap.size + 1, 8, none⟩ (.slice a' (k + 1) cap') rfl) (fun j hj e => by omega)
        have R3 := ((HS.out.then (Sans.alloc wr _)).grew (Nat.le_refl _) (by simp; omega) hB2).stored 8 (.slice a' (k + 1) cap')
        first | exact ⟨k + 1, a', cap', by omega, by go_num, R1, R2, R3⟩ | ((repeat apply Exists.intro); exact ⟨⟨k + 1, a', cap', by omega, by go_num, R1, R2, R3⟩, rfl⟩)
      case measure => simp [intOf]; omega
    · obtain rfl : k = L := by omega
      obtain ⟨W2, hW2⟩ : ∃ W2, W2 = wr := ⟨_, rfl⟩
      subst hW2
      go_wp2_with fail
      clear hc2 hc8
      go_loopw [13, 14, 15] (fun bit y _ ws => ∃ (b : Nat) (ea : Option Addr) (ec : Nat), 1 ≤ b ∧ b ≤ N ∧ bit = .int .u16 (Plan.bitAt J (Plan.tri b) : Nat) ∧ y = .int .i64 b ∧ Bx ws (w.heap.size + 1) ⟨(N : Nat), (k : Nat), r3, r4, r5, r6, 64, (J : Nat), ea, (Plan.full J b).length, ec, wa, k, wc, none, 0, 0⟩ ∧ ws.ownsRow W2.heap.size 43 2 (.slice ea (Plan.full J b).length ec) (Plan.full J b).length (pcells (Plan.full J b)) ∧ Sans (fun j => j = w.heap.size + 1) W2 ws) (fun _ y _ _ => N - (intOf y).toNat)
      case atStart => exact ⟨1, none, 0, Nat.le_refl _, by omega, by rw [show Plan.tri 1 = 0 from rfl, Plan.bitAt_zero], rfl, HX.out, World.ownsRow_nil _ _ _ _, Sans.refl _ _⟩
      case round =>
        obtain ⟨b, ea, ec, hb1, hb2, rfl, rfl, hX3, hO3, hS3⟩ := hrel
        have HX3 : Hid (Bx wr (w.heap.size + 1) ⟨(N : Nat), (k : Nat), r3, r4, r5, r6, 64, (J : Nat), ea, (Plan.full J b).length, ec, wa, k, wc, none, 0, 0⟩) := hX3
        have HO3 : Hid (wr.ownsRow W2.heap.size 43 2 (.slice ea (Plan.full J b).length ec) (Plan.full J b).length (pcells (Plan.full J b))) := hO3
        have HS3 : Hid (Sans (fun j => j = w.heap.size + 1) W2 wr) := hS3
        have hsz3 := hS3.size
        have hc0 := hX3.x.c0
        simp only at hc0
        clear hX3 hO3 hS3
        by_cases hbN : b < N
        · go_wp2_with fail
          have HA0 : Hid (Plan.full J b = Plan.full J b ++ Plan.part J b 0) := by
            show _ = _
            rw [Plan.part_zero, List.append_nil]
          go_loopw [13, 15] (fun bit x ws => ∃ (t : Nat) (ea : Option Addr) (ec : Nat), t ≤ b ∧ bit = .int .u16 (Plan.bitAt J (Plan.tri b + t) : Nat) ∧ x = .int .i64 t ∧ Bx ws (w.heap.size + 1) ⟨(N : Nat), (k : Nat), r3, r4, r5, r6, 64, (J : Nat), ea, (Plan.full J b ++ Plan.part J b t).length, ec, wa, k, wc, none, 0, 0⟩ ∧ ws.ownsRow W2.heap.size 43 2 (.slice ea (Plan.full J b ++ Plan.part J b t).length ec) (Plan.full J b ++ Plan.part J b t).length (pcells (Plan.full J b ++ Plan.part J b t)) ∧ Sans (fun j => j = w.heap.size + 1) W2 ws) (fun _ x _ => b - (intOf x).toNat)
          case atStart => exact ⟨0, ea, ec, Nat.zero_le _, rfl, rfl, by rw [← HA0.out]; exact HX3.out, by rw [← HA0.out]; exact HO3.out, HS3.out⟩
          case round =>
            obtain ⟨t, ea', ec', ht, rfl, rfl, hX4, hO4, hS4⟩ := hrel
            obtain ⟨m, hm⟩ : ∃ m, (Plan.full J b ++ Plan.part J b t).length = m := ⟨_, rfl⟩
            have HX4 : Hid (Bx wr (w.heap.size + 1) ⟨(N : Nat), (k : Nat), r3, r4, r5, r6, 64, (J : Nat), ea', m, ec', wa, k, wc, none, 0, 0⟩) := by rw [← hm]; exact hX4
            have HO4 : Hid (wr.ownsRow W2.heap.size 43 2 (.slice ea' m ec') (Plan.full J b ++ Plan.part J b t).length (pcells (Plan.full J b ++ Plan.part J b t))) := by rw [← hm]; exact hO4
            have HM4 : Hid ((Plan.full J b ++ Plan.part J b t).length = m) := hm
            have HS4 : Hid (Sans (fun j => j = w.heap.size + 1) W2 wr) := hS4
            have hsz4 := hS4.size
            have hc1 := HX4.out.x.c1
            simp only at hc1
            have hmb : m ≤ 100 := by
              have h1 := Plan.full_len J b
              have h2 := Plan.tri_le (show b ≤ 6 by omega)
              have h3 := Plan.part_len J b t
              rw [← hm, List.length_append]
              omega
            have hJ : Plan.bitAt J (Plan.tri b + t) < 65536 := Nat.lt_of_le_of_lt (Plan.bitAt_le J _) h4
            have HBS : Hid (Plan.bitAt J (Plan.tri b + (t + 1)) = Plan.bitAt J (Plan.tri b + t) / 2) := by rw [← Nat.add_assoc]; exact Plan.bitAt_succ J _
            clear hX4 hO4 hS4 hm
            by_cases htb : t < b
            · obtain ⟨B, hB⟩ : ∃ B, Plan.bitAt J (Plan.tri b + t) = B := ⟨_, rfl⟩
              have HBt : Hid (Plan.bitAt J (Plan.tri b + t) = B) := hB
              rw [hB] at hJ HBS ⊢
              clear hB
              by_cases hod : B % 2 = 1
              · have hod' : ((B : Int) % 2 == 1) = true := by simp; omega
                have HA : Hid ((Plan.full J b ++ Plan.part J b t) ++ [((t : Int), (b : Int))] = Plan.full J b ++ Plan.part J b (t + 1)) := by
                  show _ = _
                  rw [Plan.part_hit (by rw [HBt.out]; exact hod), List.append_assoc]
                have HB5 : Hid (w.heap.size + 1 < W2.heap.size) := by show _ < _; omega
                obtain ⟨m', hm'⟩ : ∃ m', (Plan.full J b ++ Plan.part J b (t + 1)).length = m' := ⟨_, rfl⟩
                have HM5 : Hid ((Plan.full J b ++ Plan.part J b (t + 1)).length = m') := hm'
                clear hm'
                go_wp2_with (at_builtin; refine wpList_append_p rfl (.tmp 83) (.tmp 87) 26 43 rfl Tryz.underlying26 infoE W2.heap.size (.slice ea' m ec') (Plan.full J b ++ Plan.part J b t) rfl (owns_below HO4.out (fresh _ _)) (by simp; omega) _ 1 _ [((t : Int), (b : Int))] rfl (pr_one wr _ _ _) (fun e => by cases e) (by rw [HM4.out]; omega) _ HA.out ?_; intro v' w2 hown hB2; have hX2 := (HX4.out.below (fresh wr _) (by have := HB5.out; omega)).below hB2 HB5.out; have q1 := hX2.x.c1; have f1 := hX2.f 1; simp only at q1; obtain ⟨a', cap', hv', _⟩ := pr_of_owns hown; rw [HM5.out] at hv'; subst hv'; have HX5 := hX2; clear hX2)
                go_roundw
                case rel =>
                  have R0 : Value.int IntKind.u16 ((B : Int) / 2) = .int .u16 (Plan.bitAt J (Plan.tri b + (t + 1)) : Nat) := by rw [HBS.out]; rfl
                  have R1 := HX5.setE a' m' cap'
                  have R2 := owns_sans hown (Sans.of_set (F := fun j => j = w.heap.size + 1) w2 ⟨w.heap.size + 1, 1, none⟩ (.slice a' m' cap') rfl) (fun j hj e => by have := HB5.out; omega)
                  have R3 := ((HS4.out.then (Sans.alloc wr _)).grew (Nat.le_refl _) (by simp; omega) hB2).stored 1 (.slice a' m' cap')
                  first | exact ⟨t + 1, a', cap', by omega, R0, by go_num, by rw [HM5.out]; exact R1, by rw [HM5.out] at R2 ⊢; exact R2, R3⟩ | ((repeat apply Exists.intro); exact ⟨⟨t + 1, a', cap', by omega, R0, by go_num, by rw [HM5.out]; exact R1, by rw [HM5.out] at R2 ⊢; exact R2, R3⟩, rfl⟩)
                case measure => simp [intOf]; omega
              · have hod' : ((B : Int) % 2 == 1) = false := by simp; omega
                have HA : Hid (Plan.part J b (t + 1) = Plan.part J b t) := Plan.part_miss (by rw [HBt.out]; exact hod)
                go_wp2_with fail
                go_roundw
                case rel =>
                  have R0 : Value.int IntKind.u16 ((B : Int) / 2) = .int .u16 (Plan.bitAt J (Plan.tri b + (t + 1)) : Nat) := by rw [HBS.out]; rfl
                  have R1 : Bx wr (w.heap.size + 1) ⟨(N : Nat), (k : Nat), r3, r4, r5, r6, 64, (J : Nat), ea', (Plan.full J b ++ Plan.part J b (t + 1)).length, ec', wa, k, wc, none, 0, 0⟩ := by rw [HA.out, HM4.out]; exact HX4.out
                  have R2 : wr.ownsRow W2.heap.size 43 2 (.slice ea' (Plan.full J b ++ Plan.part J b (t + 1)).length ec') (Plan.full J b ++ Plan.part J b (t + 1)).length (pcells (Plan.full J b ++ Plan.part J b (t + 1))) := by
                    have := HO4.out
                    rw [← HM4.out] at this
                    rw [HA.out]
                    exact this
                  first | exact ⟨t + 1, ea', ec', by omega, R0, by go_num, R1, R2, HS4.out⟩ | ((repeat apply Exists.intro); exact ⟨⟨t + 1, ea', ec', by omega, R0, by go_num, R1, R2, HS4.out⟩, rfl⟩)
                case measure => simp [intOf]; omega
            · obtain rfl : t = b := by omega
              go_wp2_with fail
              go_roundw
              case rel =>
                have R0 : Value.int IntKind.u16 (Plan.bitAt J (Plan.tri t + t) : Nat) = .int .u16 (Plan.bitAt J (Plan.tri (t + 1)) : Nat) := rfl
                have R1 : Bx wr (w.heap.size + 1) ⟨(N : Nat), (k : Nat), r3, r4, r5, r6, 64, (J : Nat), ea', (Plan.full J (t + 1)).length, ec', wa, k, wc, none, 0, 0⟩ := by
                  rw [show (Plan.full J (t + 1)).length = m from HM4.out]
                  exact HX4.out
                have R2 : wr.ownsRow W2.heap.size 43 2 (.slice ea' (Plan.full J (t + 1)).length ec') (Plan.full J (t + 1)).length (pcells (Plan.full J (t + 1))) := by
                  have := HO4.out
                  rw [← HM4.out] at this
                  exact this
                first | exact ⟨t + 1, ea', ec', by omega, by omega, R0, by go_num, R1, R2, HS4.out⟩ | ((repeat apply Exists.intro); exact ⟨⟨t + 1, ea', ec', by omega, by omega, R0, by go_num, R1, R2, HS4.out⟩, rfl⟩)
              case measure => simp [intOf]; omega
        · obtain rfl : b = N := by omega
          obtain ⟨W3, hW3⟩ : ∃ W3, W3 = wr := ⟨_, rfl⟩
          subst hW3
          go_wp2_with fail
          clear hc0
          obtain ⟨e, he⟩ : ∃ e, (Plan.full J b).length = e := ⟨_, rfl⟩
          have HE : Hid ((Plan.full J b).length = e) := he
          have HX3' : Hid (Bx W3 (w.heap.size + 1) ⟨(b : Nat), (k : Nat), r3, r4, r5, r6, 64, (J : Nat), ea, e, ec, wa, k, wc, none, 0, 0⟩) := by rw [← he]; exact HX3.out
          clear he
          go_loopw [16, 17, 18, 19, 20] (fun kk y _ _ _ ws => ∃ (t q : Nat) (na : Option Addr) (nc : Nat) (vs : List Value) (gs : List Nat), t ≤ b ∧ q = b * t ∧ kk = .int .i64 q ∧ y = .int .i64 t ∧ Bx ws (w.heap.size + 1) ⟨(b : Nat), (k : Nat), r3, r4, r5, r6, 64, (J : Nat), ea, e, ec, wa, k, wc, na, t, nc⟩ ∧ Rw ws W3.heap.size (.slice na t nc) t ((Route.mkRows b l).take t) vs gs ∧ Sans (fun j => j = w.heap.size + 1) W3 ws) (fun _ y _ _ _ _ => b - (intOf y).toNat)
          case atStart => exact ⟨0, 0, none, 0, [], [], Nat.zero_le _, rfl, rfl, rfl, HX3'.out, Rw.nil _ _, Sans.refl _ _⟩
          case round =>
            obtain ⟨t, q, na, nc, vs, gs, ht, hq, rfl, rfl, hX6, hR6, hS6⟩ := hrel
            have HX6 : Hid (Bx wr (w.heap.size + 1) ⟨(b : Nat), (k : Nat), r3, r4, r5, r6, 64, (J : Nat), ea, e, ec, wa, k, wc, na, t, nc⟩) := hX6
            have HR6 : Hid (Rw wr W3.heap.size (.slice na t nc) t ((Route.mkRows b l).take t) vs gs) := hR6
            have HS6 : Hid (Sans (fun j => j = w.heap.size + 1) W3 wr) := hS6
            have HQ : Hid (q = b * t) := hq
            have hq36 : q ≤ 36 := by
              rw [hq]
              exact Nat.le_trans (Nat.mul_le_mul (show b ≤ 6 by omega) (show t ≤ 6 by omega)) (by decide)
            have hsz6 := hS6.size
            have hc0 := hX6.x.c0
            simp only at hc0
            clear hX6 hR6 hS6 hq
            by_cases htb : t < b
            · obtain ⟨Wi, hWi⟩ : ∃ Wi, Wi = wr := ⟨_, rfl⟩
              subst hWi
              have HBi : Hid (Below w.heap.size w Wi) := HS0.out.2.2.1.trans ((HS.out.below (B := w.heap.size) (by omega) (fun j e => by omega)).trans ((HS3.out.below (B := w.heap.size) (by omega) (fun j e => by omega)).trans (HS6.out.below (B := w.heap.size) (by omega) (fun j e => by omega))))
              go_wp2_with fail
              go_loopw [16, 18, 19, 20] (fun kk v x _ ws => ∃ (j q' : Nat), j ≤ b ∧ q' = q + j ∧ kk = .int .i64 q' ∧ x = .int .i64 j ∧ ws.ownsRow Wi.heap.size 3 1 v ((Route.mkRow b l t).take j).length (zcells ((Route.mkRow b l t).take j)) ∧ Below Wi.heap.size Wi ws) (fun _ _ x _ _ => b - (intOf x).toNat)
              case atStart => exact ⟨0, q, Nat.zero_le _, rfl, rfl, rfl, World.ownsRow_nil _ _ _ _, Below.refl _ _⟩
              case round =>
                obtain ⟨j, q', hj, hq', rfl, rfl, hO7, hB7⟩ := hrel
                obtain ⟨lst, hlst⟩ : ∃ lst, (Route.mkRow b l t).take j = lst := ⟨_, rfl⟩
                have HLs : Hid ((Route.mkRow b l t).take j = lst) := hlst
                rw [hlst] at hO7
                have HO7 : Hid (wr.ownsRow Wi.heap.size 3 1 u18 lst.length (zcells lst)) := hO7
                have HB7 : Hid (Below Wi.heap.size Wi wr) := hB7
                have HLj : Hid (lst.length = j) := by show _ = _; rw [← hlst, List.length_take, Route.mkRow_len]; omega
                have HQ' : Hid (q' = b * t + j) := by show _ = _; rw [hq', HQ.out]
                have hq42 : q' ≤ 42 := by omega
                have hsz7 := hB7.size
                have z0 := (hB7.cell (p := ⟨w.heap.size + 1, 0, none⟩) (cell_lt hc0)).trans hc0
                clear hO7 hB7 hlst hq'
                by_cases hjb : j < b
                · have fin : ∀ (z : Int) (v' : Value) (w2 : World), z = Route.nxt b l q' j → w2.ownsRow Wi.heap.size 3 1 v' (lst ++ [z]).length (zcells (lst ++ [z])) → Below Wi.heap.size (wr.alloc (.cells #[.int .i64 z] 3)) w2 → w2.ownsRow Wi.heap.size 3 1 v' ((Route.mkRow b l t).take (j + 1)).length (zcells ((Route.mkRow b l t).take (j + 1))) ∧ Below Wi.heap.size Wi w2 := fun z v' w2 hz h1 h2 => by
                    rw [← Route.mkRow_take hjb, HLs.out, ← HQ'.out, ← hz]
                    exact ⟨h1, (HB7.out.alloc hsz7 _).trans h2⟩
                  have HFin := fin
                  have HQq : Hid (q' + 1 = q + (j + 1)) := by show _ = _; have := HQ.out; have := HQ'.out; omega
                  clear fin
                  by_cases hqn : q' < n
                  · obtain ⟨bb, oo, ha, hcell⟩ := (HO.out.below (later HBi.out HB7.out)).at (show 0 < n by omega)
                    subst ha
                    have hcl := hcell q' hqn
                    obtain ⟨cc, hcc⟩ : ∃ cc, l.getD q' 0 = cc := ⟨_, rfl⟩
                    have HCc : Hid (l.getD q' 0 = cc) := hcc
                    have hc256 : cc < 256 := by rw [← hcc]; exact Oct_getD HO.out.2.2.1 q'
                    rw [hcc] at hcl
                    clear hcell hcc
                    by_cases h40 : cc % 4 = 0
                    · have h40' : ((cc : Int) % 4 == 0) = true := by simp; omega
                      have hb0 : b ≠ 0 := by omega
                      have HNx : Hid ((cc : Int) / 4 % (b : Int) = Route.nxt b l q' j) := by
                        show _ = _
                        unfold Route.nxt
                        rw [if_pos ⟨by have := HO.out.1; omega, by rw [HCc.out]; exact h40⟩, HCc.out]
                        rfl
                      go_wp2_with fail
                      go_region
                      go_wp2_with (at_builtin; refine wpList_append_z rfl (.tmp 126) (.tmp 128) rfl Wi.heap.size u18 lst rfl (owns_below HO7.out (fresh _ _).drew) (by simp; omega) _ 1 _ [(cc : Int) / 4 % (b : Int)] rfl ((zr_one wr _).below (Below.refl _ _).drew) (fun e => by cases e) (by rw [HLj.out]; omega) _ rfl ?_; intro v' w2 hown hB2)
                      go_roundw
                      case rel =>
                        have R := HFin _ _ _ HNx.out hown (((Below.refl Wi.heap.size (wr.alloc (.cells #[.int .i64 ((cc : Int) / 4 % (b : Int))] 3))).drew).trans hB2)
                        have R0 := HQq.out
                        first | exact ⟨j + 1, q' + 1, by omega, R0, by go_num, by go_num, R.1, R.2⟩ | ((repeat apply Exists.intro); exact ⟨⟨j + 1, q' + 1, by omega, R0, by go_num, by go_num, R.1, R.2⟩, rfl⟩)
                      case measure => simp [intOf]; omega
                    · have h40' : ((cc : Int) % 4 == 0) = false := by simp; omega
                      have HNx : Hid ((j : Int) = Route.nxt b l q' j) := by
                        show _ = _
                        unfold Route.nxt
                        rw [if_neg (fun e => h40 (by rw [← HCc.out]; exact e.2))]
                      go_wp2_with (at_builtin; refine wpList_append_z rfl (.tmp 126) (.tmp 128) rfl Wi.heap.size u18 lst rfl (owns_below HO7.out (fresh _ _)) (by simp; omega) _ 1 _ [(j : Int)] rfl (zr_one wr _) (fun e => by cases e) (by rw [HLj.out]; omega) _ rfl ?_; intro v' w2 hown hB2)
                      go_roundw
                      case rel =>
                        have R := HFin _ _ _ HNx.out hown hB2
                        have R0 := HQq.out
                        first | exact ⟨j + 1, q' + 1, by omega, R0, by go_num, by go_num, R.1, R.2⟩ | ((repeat apply Exists.intro); exact ⟨⟨j + 1, q' + 1, by omega, R0, by go_num, by go_num, R.1, R.2⟩, rfl⟩)
                      case measure => simp [intOf]; omega
                  · have hqn' : ¬ (q' : Int) < n := by omega
                    have HNx : Hid ((j : Int) = Route.nxt b l q' j) := by
                      show _ = _
                      unfold Route.nxt
                      rw [if_neg (fun e => hqn (by have := HO.out.1; omega))]
                    go_wp2_with (at_builtin; refine wpList_append_z rfl (.tmp 126) (.tmp 128) rfl Wi.heap.size u18 lst rfl (owns_below HO7.out (fresh _ _)) (by simp; omega) _ 1 _ [(j : Int)] rfl (zr_one wr _) (fun e => by cases e) (by rw [HLj.out]; omega) _ rfl ?_; intro v' w2 hown hB2)
                    go_roundw
                    case rel =>
                      have R := HFin _ _ _ HNx.out hown hB2
                      have R0 := HQq.out
                      first | exact ⟨j + 1, q' + 1, by omega, R0, by go_num, by go_num, R.1, R.2⟩ | ((repeat apply Exists.intro); exact ⟨⟨j + 1, q' + 1, by omega, R0, by go_num, by go_num, R.1, R.2⟩, rfl⟩)
                    case measure => simp [intOf]; omega
                · obtain rfl : j = b := by omega
                  have HX7 : Hid (Bx wr (w.heap.size + 1) ⟨(j : Nat), (k : Nat), r3, r4, r5, r6, 64, (J : Nat), ea, e, ec, wa, k, wc, na, t, nc⟩) := HX6.out.below HB7.out (cell_lt hc0)
                  have q10 := HX7.out.x.c10
                  simp only at q10
                  have HR7 : Hid (Rw wr W3.heap.size (.slice na t nc) t ((Route.mkRows j l).take t) vs gs) := HR6.out.sans (F := fun _ => False) (Sans.of_below HB7.out) (fun _ _ e => e)
                  have hRT : lst = Route.mkRow j l t := by rw [← HLs.out]; exact List.take_of_length_le (by rw [Route.mkRow_len]; omega)
                  obtain ⟨a18, cap18, hv18, _⟩ := zr_of_owns HO7.out
                  rw [HLj.out] at hv18
                  subst hv18
                  have HRow : Hid (wr.ownsRow Wi.heap.size 3 1 (.slice a18 j cap18) (Route.mkRow j l t).length (zcells (Route.mkRow j l t))) := by
                    show wr.ownsRow _ _ _ _ _ _
                    rw [← hRT]
                    exact HO7.out
                  have HLow : Hid ((∀ g ∈ gs, g < Wi.heap.size) ∧ (∀ g, (Value.slice na t nc).ownBlock = some g → g < Wi.heap.size)) := ⟨HR6.out.low, fun g e => (HR6.out.own.lt g e).2⟩
                  have HRs : Hid ((Route.mkRows j l).take t ++ [Route.mkRow j l t] = (Route.mkRows j l).take (t + 1)) := Route.mkRows_take htb
                  have HQn : Hid (q' = j * (t + 1)) := by show _ = _; rw [HQ'.out, Nat.mul_succ]
                  have hsz8 : W3.heap.size ≤ wr.heap.size := by omega
                  have HW3 : Hid (w.heap.size + 1 < W3.heap.size) := cell_lt HX3'.out.x.c0
                  have HT6 : Hid (t ≤ 6) := by show _ ≤ _; omega
                  have hj0 : 0 < (Route.mkRow j l t).length := by rw [Route.mkRow_len]; omega
                  have HJ0 : Hid (0 < (Route.mkRow j l t).length) := hj0
                  clear hj0 hRT hc0
                  go_wp2_with (at_builtin; refine wpList_append_v rfl (.tmp 133) (.tmp 135) 29 27 rfl (.slice none 0 0) 1 24 Tryz.underlying29 infoR rfl (by decide) W3.heap.size (.slice na t nc) t vs rfl (owns_below HR7.out.own (fresh _ _)) (by simp; omega) _ 1 _ [.slice a18 j cap18] rfl rfl (fun e => by cases e) (.inr ⟨_, rfl, row_cell wr _⟩) (fun u hu => by rw [List.mem_singleton] at hu; rw [hu]; rfl) (by have := HT6.out; unfold maxLen; omega) (by have := HT6.out; omega) ?_; intro v' w2 hown hB2 hg hat; have hX2 := (HX7.out.below (fresh wr _) (by have := HW3.out; omega)).below hB2 HW3.out; have q10 := hX2.x.c10; have f10 := hX2.f 10; simp only at q10; obtain ⟨gn, hRb⟩ := HR7.out.push HLow.out.1 HLow.out.2 HRow.out hsz6 HJ0.out hown hg hat; obtain ⟨a', cap', hv', _⟩ := mr_of_rb hRb.rb; subst hv'; rw [HRs.out] at hRb; have HX8 := hX2; have HRb : Hid _ := hRb; clear hX2 hRb hg hat)
                  go_roundw
                  case rel =>
                    have R1 := HX8.setN a' (t + 1) cap'
                    have R2 := Rw.sans HRb.out (Sans.of_set (F := fun i => i = w.heap.size + 1) w2 ⟨w.heap.size + 1, 10, none⟩ (.slice a' (t + 1) cap') rfl) (fun i hi e => by have := HW3.out; omega)
                    have R3 := (((HS6.out.grew (Nat.le_refl _) hsz6 (HB7.out.mono hsz6)).then (Sans.alloc wr _)).grew (Nat.le_refl _) (by simp; omega) hB2).stored 10 (.slice a' (t + 1) cap')
                    have R0 := HQn.out
                    first | exact ⟨t + 1, q', a', cap', _, _, by omega, R0, by go_num, by go_num, R1, R2, R3⟩ | ((repeat apply Exists.intro); exact ⟨⟨t + 1, q', a', cap', _, _, by omega, R0, by go_num, by go_num, R1, R2, R3⟩, rfl⟩)
                  case measure => simp [intOf]; omega
            · obtain rfl : t = b := by omega
              have HR : Hid (Bx wr w.heap.size pz) := ((HS0.out.2.1.sans HS.out (by omega)).sans HS3.out (by omega)).sans HS6.out (by omega)
              obtain ⟨x0, x1, x2, x3, x4, x5, x6, x7, x8, x9, x10⟩ := HX6.out.x
              obtain ⟨y0, y1, y2, y3, y4, y5, y6, y7, y8, y9, y10⟩ := HR.out.x
              have f0 := HR.out.f
              simp only [pz] at x0 x1 x2 x3 x4 x5 x6 x7 x8 x9 x10 y0 y1 y2 y3 y4 y5 y6 y7 y8 y9 y10
              go_wp2_with fail
              have HF : Hid (Bxd (lay11 wr w.heap.size ⟨(t : Nat), (k : Nat), r3, r4, r5, r6, 64, (J : Nat), ea, e, ec, wa, k, wc, na, t, nc⟩) w.heap.size ⟨(t : Nat), (k : Nat), r3, r4, r5, r6, 64, (J : Nat), ea, e, ec, wa, k, wc, na, t, nc⟩ ∧ Sans (fun j => j = w.heap.size) wr (lay11 wr w.heap.size ⟨(t : Nat), (k : Nat), r3, r4, r5, r6, 64, (J : Nat), ea, e, ec, wa, k, wc, na, t, nc⟩)) := ⟨lay11_bxd HR.out _, lay11_sans _ _ _⟩
              unfold lay11 at HF
              simp only at HF
              clear x0 x1 x2 x3 x4 x5 x6 x7 x8 x9 x10 y0 y1 y2 y3 y4 y5 y6 y7 y8 y9 y10 f0 hc0
              generalize World.setCell _ ⟨w.heap.size, 10, none⟩ _ = Wf at HF ⊢
              obtain ⟨x0, x1, x2, x3, x4, x5, x6, x7, x8, x9, x10⟩ := HF.out.1
              simp only at x0 x1 x2 x3 x4 x5 x6 x7 x8 x9 x10
              refine bodyPost_ret (v := PV.val ⟨(t : Nat), (k : Nat), r3, r4, r5, r6, 64, (J : Nat), ea, e, ec, wa, k, wc, na, t, nc⟩) (by simp [results, Tryz.f23, go_sem, x0, x1, x2, x3, x4, x5, x6, x7, x8, x9, x10, PV.val]) rfl ?_
              refine ⟨⟨(t : Nat), (k : Nat), r3, r4, r5, r6, 64, (J : Nat), ea, e, ec, wa, k, wc, na, t, nc⟩, rfl, ?_, rfl, ?_, ?_⟩
              · rw [HM.out]; rfl
              · rw [HNe.out.1, HNe.out.2]
                have hb2 : w.heap.size + 1 < W3.heap.size := cell_lt HX3'.out.x.c0
                have hW2 : w.heap.size + 1 < W2.heap.size := by omega
                have h1 := owns_sans (owns_sans HO3.out HS6.out (fun j hj e => by omega)) HF.out.2 (fun j hj e => by omega)
                have h2 := owns_sans (owns_sans (owns_sans HOw.out HS3.out (fun j hj e => by omega)) HS6.out (fun j hj e => by omega)) HF.out.2 (fun j hj e => by omega)
                have h3 := HR6.out.sans HF.out.2 (fun j hj e => by omega)
                rw [List.take_of_length_le (by rw [Route.mkRows_len]; omega)] at h3
                rw [HE.out] at h1
                exact ⟨by rw [HE.out]; exact owns_mono h1 (by omega), owns_mono h2 (by omega), vs, gs, by rw [Route.mkRows_len]; exact h3.mono (by omega), fun g hg => ⟨fun e => by have h5 := (HO3.out.lt g (by rw [HE.out]; exact e)).2; have h6 := h3.high g hg; omega, fun e => by have h5 := (HOw.out.lt g e).2; have h6 := h3.high g hg; omega⟩⟩
              · exact HS0.out.2.2.1.trans ((HS.out.below (B := w.heap.size) (by omega) (fun j e => by omega)).trans ((HS3.out.below (B := w.heap.size) (by omega) (fun j e => by omega)).trans ((HS6.out.below (B := w.heap.size) (by omega) (fun j e => by omega)).trans (HF.out.2.below (B := w.heap.size) (by omega) (fun j e => by omega)))))
end Go.Proofs.YtniicgbkeifnjaaGreatDoor
namespace Go.Proofs.YtniicgbkeifnjaaGreatDoor.Route
set_option linter.unusedVariables false
set_option maxRecDepth 100000
def upd (f : Nat → Nat → Int) (rs : List (List Int)) (N v w : Nat) : List (List Int) := (List.range N).map fun a => (List.range N).map fun b => if (a < v ∨ a = v ∧ b < w) ∧ a ≠ b then f a b else (rs.getD a []).getD b 0
end Go.Proofs.YtniicgbkeifnjaaGreatDoor.Route
namespace Go.Proofs.YtniicgbkeifnjaaGreatDoor
open Go.ChangeShapes Go.WideShapes Go.ChangeAt Go.RowKit
set_option linter.unusedVariables false
set_option maxRecDepth 100000
structure MkN (base : Nat) (p : PV) (nodes room more : Nat) (es : List (Int × Int)) (rs : List (List Int)) (w : World) : Prop where
  num : p.num = Plan.mkNum nodes room more
  made : Made base p es (Plan.mkW more (Plan.mkL more)) rs w
theorem MkN.nodes {base : Nat} {p : PV} {nodes room more : Nat} {es : List (Int × Int)} {rs : List (List Int)} {w : World} (h : MkN base p nodes room more es rs w) : p.nodes = (Plan.mkN nodes : Nat) := by
  have := congrArg Plan.Num.nodes h.num
  exact this
theorem mk_nums {p : PV} {nodes room more : Nat} (h : p.num = Plan.mkNum nodes room more) : I64 p.nodes ∧ I64 p.lanes ∧ I64 p.room ∧ I64 p.queue ∧ I64 p.rounds ∧ I64 p.every ∧ I64 p.bag := by
  have h0 : p.nodes = (Plan.mkN nodes : Nat) := congrArg Plan.Num.nodes h
  have h1 : p.lanes = (Plan.mkL more : Nat) := congrArg Plan.Num.lanes h
  have h2 : p.room = (1 + room % 8 : Nat) := congrArg Plan.Num.room h
  have h3 : p.queue = (1 + room / 8 % 8 : Nat) := congrArg Plan.Num.queue h
  have h4 : p.rounds = (1 + more / 3 % 4 : Nat) := congrArg Plan.Num.rounds h
  have h5 : p.every = (1 + more / 12 % 8 : Nat) := congrArg Plan.Num.every h
  have h6 : p.bag = 64 := congrArg Plan.Num.bag h
  unfold Plan.mkN at h0
  unfold Plan.mkL at h1
  unfold I64
  omega
theorem MkN.pln {base : Nat} {p : PV} {nodes room more : Nat} {es : List (Int × Int)} {rs : List (List Int)} {w : World} (h : MkN base p nodes room more es rs w) (h1 : es.length ≤ 100) (h3 : rs.length ≤ 100) (ei : ∀ x ∈ es, I64 x.1 ∧ I64 x.2) (ni : ∀ r ∈ rs, ∀ x ∈ r, I64 x) : PlN w p es (Plan.mkW more (Plan.mkL more)) rs :=
  (h.made.pln h1 (by rw [Plan.mkW_len]; unfold Plan.mkL; omega) h3 ei (fun x hx => by have := Plan.mkW_mem hx; unfold I64; omega) ni (mk_nums h.num)).1
theorem full_i64 {J N : Nat} (h : N ≤ 6) : ∀ x ∈ Plan.full J N, I64 x.1 ∧ I64 x.2 := by
  intro x hx
  obtain ⟨u, v, h1, h2, rfl⟩ := Plan.mem_full hx
  unfold I64
  simp only
  omega
theorem rows_i64 {N : Nat} (h1 : 1 ≤ N) (h6 : N ≤ 6) (l : List Nat) : ∀ r ∈ Route.mkRows N l, ∀ x ∈ r, I64 x := fun r hr x hx => by
  have := Route.mkRows_num h1 h6 l r hr x hx
  unfold I64
  omega
end Go.Proofs.YtniicgbkeifnjaaGreatDoor
