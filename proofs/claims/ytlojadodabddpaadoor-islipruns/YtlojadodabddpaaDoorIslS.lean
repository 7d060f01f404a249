/-
  The document's own arbiter (package shunterref10): one round. Conditions: none but that the arbiter is one, and that the slices lead to masks and to numbers, apart from it.
-/
import Derived.Test.YtlojadodabddpaaDoorIslR
namespace Go.Proofs.YtlojadodabddpaaDoor
open Go.ChangeShapes Go.WideShapes Go.ChangeAt Go.RowKit
set_option linter.unusedVariables false

namespace Isl
def ifG (first : Bool) (n : Nat) (ac : Nat → Int) (k : Nat) (G : Nat → Nat) : Nat → Nat := if first = true then mvG n (prs ac k) G else G
def ifA (first : Bool) (n : Nat) (ac : Nat → Int) (k : Nat) (A : Nat → Nat) : Nat → Nat := if first = true then mvA n (prs ac k) A else A
theorem ifG_miss {first : Bool} {n : Nat} {ac : Nat → Int} {k : Nat} {G : Nat → Nat} (h : ac k = -1) : ifG first n ac (k + 1) G = ifG first n ac k G := by unfold ifG; rw [prs_miss h]
theorem ifA_miss {first : Bool} {n : Nat} {ac : Nat → Int} {k : Nat} {A : Nat → Nat} (h : ac k = -1) : ifA first n ac (k + 1) A = ifA first n ac k A := by unfold ifA; rw [prs_miss h]
theorem ifG_no {n : Nat} {ac : Nat → Int} {k : Nat} {G : Nat → Nat} : ifG false n ac k G = G := rfl
theorem ifA_no {n : Nat} {ac : Nat → Int} {k : Nat} {A : Nat → Nat} : ifA false n ac k A = A := rfl
theorem ifG_hit {n : Nat} {ac : Nat → Int} {k o : Nat} {G : Nat → Nat} (h : ac k = (o : Nat)) : ifG true n ac (k + 1) G = stepG n (ifG true n ac k G) (k, o) := by
  show mvG n (prs ac (k + 1)) G = stepG n (mvG n (prs ac k) G) (k, o)
  rw [prs_hit h]
  unfold mvG
  rw [List.foldl_append]
  rfl
theorem ifA_hit {n : Nat} {ac : Nat → Int} {k o : Nat} {A : Nat → Nat} (h : ac k = (o : Nat)) : ifA true n ac (k + 1) A = stepA n (ifA true n ac k A) (k, o) := by
  show mvA n (prs ac (k + 1)) A = stepA n (mvA n (prs ac k) A) (k, o)
  rw [prs_hit h]
  unfold mvA
  rw [List.foldl_append]
  rfl
theorem ifA_at {R G A : Nat → Nat} {n : Nat} {m : Nat → Int} {first : Bool} {k : Nat} : ifA first n (acc R G A n m) k A k = A k := by
  cases first with
  | false => rfl
  | true =>
    show mvA n (prs (acc R G A n m) k) A k = A k
    rw [mvA_prs, if_neg (by omega)]
theorem ifG_all {R G A : Nat → Nat} {n : Nat} {m : Nat → Int} {first : Bool} : ifG first n (acc R G A n m) n G = if first = true then movG R G A n m else G := by
  unfold ifG
  rw [mvG_all]
theorem ifA_all {R G A : Nat → Nat} {n : Nat} {m : Nat → Int} {first : Bool} : ifA first n (acc R G A n m) n A = if first = true then movA R G A n m else A := by
  unfold ifA
  rw [mvA_all]
end Isl
/-- in the second loop: the arbiter, the offers in gb, what is told so far in v -/
def HalfX (w u : World) (p g a n gb base : Nat) (G2 A2 : Nat → Nat) (gr nx : Nat → Int) (i : Nat) (v : Value) : Prop :=
  Arb u p g a n G2 A2 ∧ Cols u gb n (Isl.offs gr n) ∧ u.ownsRow base 3 1 v i (icells i nx) ∧ Sans (fun j => j = g ∨ j = a) w u ∧ base ≤ u.heap.size
section
variable {w u : World} {p g a n gb base i : Nat} {G2 A2 : Nat → Nat} {gr nx : Nat → Int} {v : Value}
/-- one number appended -/
theorem HalfX.grown (h : HalfX w u p g a n gb base G2 A2 gr nx i v) (hd : p < base ∧ g < base ∧ a < base ∧ gb < base ∧ w.heap.size ≤ base) {tmp : Obj} {u2 : World} {v' : Value} (hg : (u.alloc tmp).grownBy u2 v.ownBlock) {z : Int} (hz : z = nx i) (hown : u2.ownsRow base 3 1 v' (i + 1) (icells i nx ++ [.int .i64 z])) : HalfX w u2 p g a n gb base G2 A2 gr nx (i + 1) v' := by
  obtain ⟨h1, h2, h3, h4, h5⟩ := h
  have s1 : Sans (fun j => base ≤ j) (u.alloc tmp) u2 := Sans.of_grown hg (fun k e => (h3.lt k e).1)
  have s2 : Sans (fun j => base ≤ j) u u2 := (Sans.alloc u tmp).then s1
  refine ⟨h1.sans s2 (by omega) (by omega) (by omega), h2.sans s2 (by omega), ?_, h4.trans s2 (fun k e => .inr (by omega)), Nat.le_trans h5 s2.size⟩
  rw [hz, icells_snoc] at hown
  exact hown
theorem owns_sans {F : Nat → Prop} {w w' : World} {base m : Nat} {e : TypeId} {v : Value} {xs : List Value} (h : w.ownsRow base e 1 v m xs) (k : Sans F w w') (hn : ∀ j, F j → j < base) : w'.ownsRow base e 1 v m xs := by
  refine ⟨h.1, ?_⟩
  rcases h.2 with h2 | ⟨g, cp, cur, e, hb, hg, r⟩
  · exact .inl h2
  · refine .inr ⟨g, cp, cur, e, hb, ?_, r⟩
    have hlt : g < w.heap.size := (Array.getElem?_eq_some_iff.1 hg).1
    exact (k.block g hlt (fun e => by have := hn g e; omega)).trans hg
/-- a turn stored -/
theorem HalfX.moved (h : HalfX w u p g a n gb base G2 A2 gr nx i v) (hd : p < base ∧ g < base ∧ a < base ∧ gb < base ∧ w.heap.size ≤ base) (hgb : gb ≠ g ∧ gb ≠ a) {G3 A3 : Nat → Nat} {u2 : World} (hs : Sans (fun j => j = g ∨ j = a) u u2) (hA : Arb u2 p g a n G3 A3) : HalfX w u2 p g a n gb base G3 A3 gr nx i v := by
  obtain ⟨h1, h2, h3, h4, h5⟩ := h
  exact ⟨hA, h2.sans hs (by omega), owns_sans h3 hs (fun j e => by omega), h4.then hs, Nat.le_trans h5 hs.size⟩
end
def Half (w u : World) (p g a n gb base : Nat) (R G A : Nat → Nat) (m : Nat → Int) (first : Bool) (i : Nat) (v : Value) : Prop :=
  HalfX w u p g a n gb base (Isl.ifG first n (Isl.acc R G A n m) i G) (Isl.ifA first n (Isl.acc R G A n m) i A) (Isl.grant R G n m) (Isl.next R G A n m) i v
set_option maxRecDepth 100000 in
set_option maxHeartbeats 4000000 in
theorem round_any {w : World} {p g a n : Nat} {G A : Nat → Nat} (h : Arb w p g a n G A) (x : Option Addr) (cx : Nat) (rows : List Nat) (hl : ∀ x ∈ rows, x < 65536) (hr : Nums .u16 w x n rows) (y : Option Addr) (cy : Nat) (m : Nat → Int) (hm : Led w y n m) (hy : ∀ ad, y = some ad → ad.block ≠ g ∧ ad.block ≠ a) (hok : ∀ i, i < n → -1 ≤ m i) (first : Bool) (R : Nat → Nat) (hRr : (fun i => rows.getD i 0) = R) (G' A' : Nat → Nat) (hG' : G' = if first = true then Isl.movG R G A n m else G) (hA' : A' = if first = true then Isl.movA R G A n m else A) :
    Calls Tryd.prog 30 #[.pointer (some ⟨p, 0, none⟩), .slice x n cx, .slice y n cy, .bool first] w fun e w' => ∃ b cap, e = .returned (.slice (some ⟨b, 0, none⟩) n cap) ∧ w.heap.size ≤ b ∧ Ints w' b n (Isl.next R G A n m) ∧ Arb w' p g a n G' A' ∧ Sans (fun j => j = g ∨ j = a) w w' := by
  have HGA : Hid (G' = (if first = true then Isl.movG R G A n m else G) ∧ A' = if first = true then Isl.movA R G A n m else A) := ⟨hG', hA'⟩
  have n1 := h.n1
  have n2 := h.n2
  have lg := h.lg
  have la := h.la
  have lp := h.lp
  have HA : Hid (Arb w p g a n G A) := h
  have HR : Hid (Nums .u16 w x n rows) := hr
  have HL : Hid (∀ x ∈ rows, x < 65536) := hl
  have HM : Hid (Led w y n m) := hm
  have HY : Hid (∀ ad, y = some ad → ad.block ≠ g ∧ ad.block ≠ a) := hy
  have HK : Hid (∀ i, i < n → -1 ≤ m i) := hok
  have HRr : Hid ((fun i => rows.getD i 0) = R) := hRr
  clear h hr hl hm hy hok hRr hG' hA'
  have hmk := run_make_row' (P := Tryd.prog) 28 29 (.int .u16 0) 2 Tryd.underlying28 infoM rfl .i64 .i64 n (by omega) (by omega)
  have HC0 : Hid (Cols (w.alloc (.cells (madeCells #[.int .u16 0] n) 29)) w.heap.size n (Isl.offs (Isl.grant R G n m) 0) ∧ Below w.heap.size w (w.alloc (.cells (madeCells #[.int .u16 0] n) 29))) := ⟨(Cols.made w n).congr (fun _ _ => rfl), fresh _ _⟩
  have hsz0 : (w.alloc (.cells (madeCells #[.int .u16 0] n) 29)).heap.size = w.heap.size + 1 := World.size_alloc _ _
  go_enter Tryd.func30, Tryd.ntmps30
  go_wp2_with fail
  generalize w.alloc (.cells (madeCells #[.int .u16 0] n) 29) = u0 at HC0 hsz0 ⊢
  obtain ⟨gr, hgr⟩ : ∃ gr, Isl.grant R G n m = gr := ⟨_, rfl⟩
  have HG : Hid (Isl.grant R G n m = gr) := hgr
  rw [hgr] at HC0
  clear hgr
  go_loopw [11, 12] (fun v _ wr => ∃ k : Nat, k ≤ n ∧ v = .int .i64 k ∧ Cols wr w.heap.size n (Isl.offs gr k) ∧ Below w.heap.size w wr ∧ u0.heap.size ≤ wr.heap.size) (fun v _ _ => n - (intOf v).toNat)
  case atStart => exact ⟨0, Nat.zero_le _, rfl, HC0.out.1, HC0.out.2, Nat.le_refl _⟩
  case round =>
    obtain ⟨k, hk, rfl, hC, hB, hz⟩ := hrel
    have HC : Hid (Cols wr w.heap.size n (Isl.offs gr k) ∧ Below w.heap.size w wr) := ⟨hC, hB⟩
    clear hC hB HC0
    by_cases hkn : k < n
    · have ha := HA.out.below HC.out.2
      have g0 := ha.c0
      have g1 := ha.gat hkn
      have HRs : Hid (∀ s : Since wr, Nums .u16 s.w x n rows) := fun s => (HR.out.below HC.out.2).below s.h
      have HMs : Hid (∀ s : Since wr, Led s.w y n m) := fun s => (HM.out.below HC.out.2).below s.h
      have hGl := HA.out.gl k hkn
      have hgref := Isl.grant_ref (R := R) (G := G) (n := n) (m := m) (o := k)
      rw [HG.out] at hgref
      have hwm : Isl.wm (fun i => rows.getD i 0) m k n < 65536 := Isl.offs_lt16 _ n2 0
      have hpc := Isl.pickP_cases (Isl.wm R m k n).testBit (G k) n
      rw [← Isl.pick_eq] at hpc
      have hpv := pickV_in (m := Isl.wm R m k n) n2 hGl
      rw [HRr.out] at hwm
      obtain ⟨q, hq⟩ : ∃ q, Isl.wm R m k n = q := ⟨_, rfl⟩
      have HAs : Hid (∀ s : Since wr, Calls Tryd.prog 36 #[.slice x n cx, .slice y n cy, .int .i64 (k : Nat)] s.w fun e w' => e = .returned (.int .u16 (q : Nat)) ∧ w' = s.w) := fun s => by
        have := asks_any (cx := cx) (cy := cy) n2 k hkn HL.out (HRs.out s) (HMs.out s)
        rw [HRr.out, hq] at this
        exact this
      rw [hq] at hpc hpv hgref hwm
      obtain ⟨pk, hpk⟩ : ∃ pk, Mask.pick q (G k) n = pk := ⟨_, rfl⟩
      rw [hpk] at hpc hpv hgref
      obtain ⟨gk, hgk⟩ : ∃ gk, G k = gk := ⟨_, rfl⟩
      rw [hgk] at g1 hpv
      have HP : Hid (pickV q (gk : Nat) n = pk) := hpv
      have hcase : pk = -1 ∨ ∃ i : Nat, i < n ∧ pk = (i : Nat) := by
        rcases hpc with ⟨e, _⟩ | ⟨i, hi, e, _⟩
        · exact .inl e
        · exact .inr ⟨i, hi, e⟩
      have HGr : Hid (gr k = if Isl.taken n m k = true then -1 else pk) := hgref
      have hne := Since.any wr
      have cg0 := fun s : Since wr => s.cell g0
      have cg1 := fun s : Since wr => s.cell g1
      clear ha g0 g1 hq hpk hgk hpv hpc hgref HRs HMs
      go_wp2_with fail
      refine region_since (u := wr) (by kernel_rfl) (by kernel_rfl) (Below.refl _ _) ?_
      repeat (go_big_quiet_step (first | (go_at_call 36; exact Since.reads _ (HAs.out _)) | (go_at_call 35; exact Since.reads _ (refPick_any q hwm _ _ _))))
      refine wpQuiet_nil ?_
      intro _ hw'
      obtain ⟨nq, hw''⟩ := hw'
      subst hw''
      rw [HP.out]
      have HC2 : Hid (Cols nq.w w.heap.size n (Isl.offs gr k) ∧ Below w.heap.size w nq.w) := ⟨HC.out.1.below nq.h, later HC.out.2 nq.h⟩
      have hz2 : u0.heap.size ≤ nq.w.heap.size := Nat.le_trans hz nq.h.size
      clear cg0 cg1 hne HAs HC
      rcases hcase with e | ⟨i, hi, e⟩
      · have HE : Hid (gr k = -1) := by
          show gr k = -1
          rw [HGr.out, e]
          split <;> rfl
        rw [e]
        clear e
        go_wp2_with fail
        go_roundw
        case rel => exact ⟨k + 1, by omega, by go_num, HC2.out.1.congr (fun z _ => Isl.offs_miss HE.out z), HC2.out.2, hz2⟩
        case measure => simp [intOf]; omega
      · rw [e]
        have hi0 : decide ((0 : Int) ≤ (i : Int)) = true := decide_eq_true (by omega)
        obtain ⟨tk, htk⟩ : ∃ tk, Isl.taken n m k = tk := ⟨_, rfl⟩
        have HTk : Hid (Calls Tryd.prog 37 #[.slice y n cy, .int .i64 (k : Nat)] nq.w fun e w' => e = .returned (.bool tk) ∧ w' = nq.w) := by
          have := taken_any (cy := cy) n2 k (HM.out.below HC2.out.2)
          rw [htk] at this
          exact this
        have HGr2 : Hid (gr k = if tk = true then -1 else (i : Int)) := by
          have := HGr.out
          rw [htk, e] at this
          exact this
        clear htk e HGr
        cases tk with
        | true =>
          have HE : Hid (gr k = -1) := HGr2.out
          go_wp2_with (go_at_call 37; refine HTk.out.mono ?_; rintro e w' ⟨rfl, hq⟩; obtain rfl := hq.symm)
          go_roundw
          case rel => exact ⟨k + 1, by omega, by go_num, HC2.out.1.congr (fun z _ => Isl.offs_miss HE.out z), HC2.out.2, hz2⟩
          case measure => simp [intOf]; omega
        | false =>
          have HE : Hid (gr k = (i : Nat)) := HGr2.out
          obtain ⟨c1, f1⟩ := HC2.out.1 i hi
          have hlt := Isl.offs_lt gr k i
          have hp : (2 : Nat) ^ k ≤ 32768 := Nat.pow_le_pow_right (j := 15) (by omega) (by omega)
          obtain ⟨z, hz3⟩ : ∃ z, Isl.offs gr k i = z := ⟨_, rfl⟩
          obtain ⟨pw, hpw⟩ : ∃ pw, 2 ^ k = pw := ⟨_, rfl⟩
          rw [hz3] at c1 hlt
          rw [hpw] at hlt hp
          have HZ : Hid (Isl.offs gr k i = z ∧ 2 ^ k = pw) := ⟨hz3, hpw⟩
          clear hz3 hpw
          go_wp2_with (go_at_call 37; refine HTk.out.mono ?_; rintro e w' ⟨rfl, hq⟩; obtain rfl := hq.symm; clear hq)
          generalize nq.w = V at HC2 hz2 c1 f1 ⊢
          clear HTk nq
          go_region_with (go_at_call 15; refine (refBit_any k (by omega) _).mono ?_; rintro e w' ⟨rfl, hq⟩; obtain rfl := hq.symm)
          all_goals
            have hs : Cols (V.setCell ⟨w.heap.size, i, none⟩ (.int .u16 ((z + pw : Nat) : Int))) w.heap.size n (Isl.offs gr (k + 1)) := (HC2.out.1.set (v := z + pw) hi).congr (fun x _ => by rw [← HZ.out.1, ← HZ.out.2]; exact Isl.offs_hit HE.out x)
            have hsum : IntKind.u16.wrap ((z : Int) + 2 ^ k) = ((z + pw : Nat) : Int) := by
              have e := HZ.out.2
              have e2 : ((2 : Int) ^ k) = ((pw : Nat) : Int) := by rw [← e]; simp
              rw [e2, IntKind.wrap_u16]
              omega
            have HS : Hid (Cols (V.setCell ⟨w.heap.size, i, none⟩ (.int .u16 ((z + pw : Nat) : Int))) w.heap.size n (Isl.offs gr (k + 1)) ∧ Below w.heap.size w (V.setCell ⟨w.heap.size, i, none⟩ (.int .u16 ((z + pw : Nat) : Int)))) := ⟨hs, HC2.out.2.setCell (p := ⟨w.heap.size, i, none⟩) (Nat.le_refl _) _⟩
            have HV : Hid (IntKind.u16.wrap ((z : Int) + 2 ^ k) = ((z + pw : Nat) : Int)) := hsum
            clear hs hsum
            go_wp2_with fail
            go_roundw
            case rel =>
              rw [HV.out]
              exact ⟨k + 1, by omega, by go_num, HS.out.1.drew1, HS.out.2.drew, by simpa [World.setCell, World.drew] using hz2⟩
            case measure => simp [intOf]; omega
    · obtain rfl : k = n := by omega
      obtain ⟨i0, hi0, hz0, hz1, hz2⟩ := info_parts infoI
      have HH : Hid (Half w wr p g a k w.heap.size wr.heap.size R G A m first 0 (.slice none 0 0)) := ⟨HA.out.below HC.out.2 |> fun e => by cases first <;> exact e, by rw [HG.out]; exact HC.out.1, World.ownsRow_nil _ _ _ _, Sans.of_below HC.out.2, Nat.le_refl _⟩
      have hd : p < wr.heap.size ∧ g < wr.heap.size ∧ a < wr.heap.size ∧ w.heap.size < wr.heap.size ∧ w.heap.size ≤ wr.heap.size := by omega
      obtain ⟨base, hbase⟩ : ∃ base, wr.heap.size = base := ⟨_, rfl⟩
      obtain ⟨gb, hgb⟩ : ∃ gb, w.heap.size = gb := ⟨_, rfl⟩
      go_wp2_with fail
      rw [hbase] at HH hd
      rw [hgb] at HH
      try rw [hgb]
      have hd2 : p < base ∧ g < base ∧ a < base ∧ gb < base ∧ w.heap.size ≤ base := by omega
      have hgb2 : gb ≠ g ∧ gb ≠ a ∧ gb ≠ p := by omega
      clear hd hbase hgb HC hz
      go_loopw [13, 14, 15] (fun v j _ wr => ∃ i : Nat, i ≤ k ∧ j = .int .i64 i ∧ Half w wr p g a k gb base R G A m first i v) (fun _ j _ _ => k - (intOf j).toNat)
      case atStart => exact ⟨0, Nat.zero_le _, rfl, HH.out⟩
      case round =>
        obtain ⟨i, hi, rfl, hH⟩ := hrel
        have HF : Hid (Half w wr p g a k gb base R G A m first i u13) := hH
        clear hH HH
        by_cases hik : i < k
        · obtain ⟨c, off', rfl, hy⟩ := (HM.out.sans HF.out.2.2.2.1 (fun ad e h => by have := HY.out ad e; omega)).at hik
          have hlo := HK.out i hik
          obtain ⟨X, hX⟩ : ∃ X, m i = X := ⟨_, rfl⟩
          rw [hX] at hy hlo
          have HX : Hid (m i = X) := hX
          clear hX
          by_cases hX0 : X < 0
          · obtain rfl : X = -1 := by omega
            have ha := HF.out.1
            have g1 := ha.c1
            have a1 := ha.aat hik
            rw [Isl.ifA_at] at a1
            have o1 : wr.cell? ⟨gb, i, none⟩ = some (.int .u16 (Isl.offs (Isl.grant R G k m) k i : Nat)) := (HF.out.2.1 i hik).1
            have o16 := Isl.offs_lt16 (Isl.grant R G k m) n2 i
            have hp : pickV (Isl.offs (Isl.grant R G k m) k i) (A i : Nat) k = Isl.acc R G A k m i := by
              rw [pickV_in n2 (HA.out.al i hik)]
              exact Isl.acc_pick (fun o ho => by rw [Isl.offs_bit, decide_eq_true ho, Bool.true_and])
            have hac := Isl.acc_cases (R := R) (G := G) (A := A) (n := k) (m := m) i
            have hnx : Isl.next R G A k m i = if 0 ≤ Isl.acc R G A k m i then Isl.acc R G A k m i else -1 := by unfold Isl.next; rw [HX.out]
            obtain ⟨q, hq⟩ : ∃ q, Isl.offs (Isl.grant R G k m) k i = q := ⟨_, rfl⟩
            obtain ⟨ai, hai⟩ : ∃ ai, A i = ai := ⟨_, rfl⟩
            obtain ⟨K, hK⟩ : ∃ K, Isl.acc R G A k m i = K := ⟨_, rfl⟩
            rw [hq] at o1 o16 hp
            rw [hai] at a1 hp
            rw [hK] at hp hac hnx
            have HKe : Hid (Isl.acc R G A k m i = K) := hK
            have HP : Hid (pickV q (ai : Nat) k = K) := hp
            have HNx : Hid (Isl.next R G A k m i = if 0 ≤ K then K else -1) := hnx
            have hcase : K = -1 ∨ ∃ o : Nat, o < k ∧ K = (o : Nat) := by
              rcases hac with ⟨e, _⟩ | ⟨o, ho, e, _⟩
              · exact .inl e
              · exact .inr ⟨o, ho, e⟩
            have hne := Since.any wr
            have cg1 := fun s : Since wr => s.cell g1
            have ca1 := fun s : Since wr => s.cell a1
            have co1 := fun s : Since wr => s.cell o1
            have cy1 := fun s : Since wr => s.cell hy
            clear ha g1 a1 o1 hq hai hK hp hac hnx
            go_wp2_with fail
            refine region_since (u := wr) (by kernel_rfl) (by kernel_rfl) (Below.refl _ _) ?_
            repeat (go_big_quiet_step (first | (go_at_call 35; exact Since.reads _ (refPick_any q o16 _ _ _))))
            refine wpQuiet_nil ?_
            intro _ hw'
            obtain ⟨nq, hw''⟩ := hw'
            subst hw''
            rw [HP.out]
            have HF2 : Hid (Half w nq.w p g a k gb base R G A m first i u13) := by
              obtain ⟨h1, h2, h3, h4, h5⟩ := HF.out
              refine ⟨h1.below nq.h, h2.below nq.h, ?_, h4.then (Sans.of_below nq.h), Nat.le_trans h5 nq.h.size⟩
              exact World.ownsRow.kept h3 (row := Option.none) ⟨nq.h.os, nq.h.tape, nq.h.output, nq.h.size, fun j hj _ => nq.h.block j hj⟩ (by cases hv : u13.ownBlock with | none => exact .inl rfl | some k => exact .inr (by simp))
            clear cg1 ca1 co1 cy1 hne HF hy
            generalize nq.w = V at HF2 ⊢
            clear nq
            rcases hcase with e | ⟨o, ho, e⟩
            · subst e
              go_wp2_with (at_builtin; refine wpList_append_own _ rfl _ _ 25 rfl base 3 i0 _ 1 8 Tryd.underlying25 hi0 hz0 hz1 hz2 rfl (by decide) u13 i (icells i (Isl.next R G A k m)) rfl (HF2.out.2.2.1.alloc _) ⟨V.heap.size, 0, none⟩ 1 1 [.int .i64 (-1)] rfl rfl (one_cell .i64 _ V (-1)) (one_one _ _) (by unfold maxLen; omega) (by omega) (by have := HF2.out.2.2.2.2; simp; omega) ?_; intro v' u2 hown hg hnil)
              have HF3 : Hid (Half w u2 p g a k gb base R G A m first (i + 1) v') := by
                have := HalfX.grown HF2.out hd2 hg HNx.out.symm hown
                rw [← Isl.ifG_miss HKe.out, ← Isl.ifA_miss HKe.out] at this
                exact this
              clear hown hg hnil HF2
              go_roundw
              case rel => first | exact ⟨i + 1, by omega, by go_num, HF3.out⟩ | ((repeat apply Exists.intro); exact ⟨⟨i + 1, by omega, by go_num, HF3.out⟩, rfl⟩)
              case measure => simp [intOf]; omega
            · subst e
              have HN2 : Hid (Isl.next R G A k m i = (o : Nat)) := by
                show _ = _
                rw [HNx.out, if_pos (by omega)]
              have do1 : decide ((0 : Int) ≤ (o : Int)) = true := decide_eq_true (by omega)
              cases first with
              | false =>
                go_wp2_with (at_builtin; refine wpList_append_own _ rfl _ _ 25 rfl base 3 i0 _ 1 8 Tryd.underlying25 hi0 hz0 hz1 hz2 rfl (by decide) u13 i (icells i (Isl.next R G A k m)) rfl (HF2.out.2.2.1.alloc _) ⟨V.heap.size, 0, none⟩ 1 1 [.int .i64 (o : Nat)] rfl rfl (one_cell .i64 _ V (o : Nat)) (one_one _ _) (by unfold maxLen; omega) (by omega) (by have := HF2.out.2.2.2.2; simp; omega) ?_; intro v' u2 hown hg hnil)
                have HF3 : Hid (Half w u2 p g a k gb base R G A m false (i + 1) v') := HalfX.grown HF2.out hd2 hg HN2.out.symm hown
                clear hown hg hnil HF2
                go_roundw
                case rel => first | exact ⟨i + 1, by omega, by go_num, HF3.out⟩ | ((repeat apply Exists.intro); exact ⟨⟨i + 1, by omega, by go_num, HF3.out⟩, rfl⟩)
                case measure => simp [intOf]; omega
              | true =>
                have hA := HF2.out.1
                have g0 := hA.c0
                obtain ⟨r0, f0⟩ := hA.gs o ho
                have z2 : k ≠ 0 := by omega
                have e1 := tmod_nat i k
                have e0 := wrap_next hik n2
                have hpg := hA.pg
                have hpa := hA.pa
                have k0 : (V.setCell ⟨g, o, none⟩ (.int .i64 (((i + 1) % k : Nat) : Int))).cell? ⟨p, 0, none⟩ = some (.slice (some ⟨g, 0, none⟩) k k) := (World.cell?_setCell_other _ _ _ _ (fun e => by cases e; omega)).trans g0
                have HV1 : Hid (∀ U : World, U = (V.setCell ⟨g, o, none⟩ (.int .i64 (((i + 1) % k : Nat) : Int))).drew → HalfX w U p g a k gb base (Isl.stepG k (Isl.ifG true k (Isl.acc R G A k m) i G) (i, o)) (Isl.ifA true k (Isl.acc R G A k m) i A) (Isl.grant R G k m) (Isl.next R G A k m) i u13) := by
                  rintro U rfl
                  have s1 : Sans (fun j => j = g ∨ j = a) V ((V.setCell ⟨g, o, none⟩ (.int .i64 (((i + 1) % k : Nat) : Int))).drew) := (Sans.of_set (F := fun j => j = g ∨ j = a) V ⟨g, o, none⟩ _ (.inl rfl)).then (Sans.drew _)
                  exact HalfX.moved HF2.out hd2 (by omega) s1 ((hA.setG (i, o) ho).below (drewN_below _ 1))
                obtain ⟨t1, ht1⟩ : ∃ t1 : Nat, (i + 1) % k = t1 := ⟨_, rfl⟩
                rw [ht1] at e1 k0 HV1
                clear ht1 hA HF2
                go_wp2_with fail
                go_region_held3 (fun w' => w'.cell? ⟨p, 0, none⟩ = some (.slice (some ⟨g, 0, none⟩) k k)) (go_keep) (fail)
                obtain ⟨U, hU⟩ : ∃ U, U = (V.setCell ⟨g, o, none⟩ (.int .i64 (t1 : Nat))).drew := ⟨_, rfl⟩
                rw [← hU]
                have HF3 := HV1.out U hU
                have hA := HF3.1
                have g1 := hA.c1
                obtain ⟨r1, f1⟩ := hA.ac i hik
                have e3 := tmod_nat o k
                have e4 := wrap_next ho n2
                clear k0 e0 e1 g0 r0 f0 HV1 hU
                have k1 : (U.setCell ⟨a, i, none⟩ (.int .i64 (((o + 1) % k : Nat) : Int))).cell? ⟨p, 1, none⟩ = some (.slice (some ⟨a, 0, none⟩) k k) := (World.cell?_setCell_other _ _ _ _ (fun e => by cases e; omega)).trans g1
                have HV2 : Hid (∀ U2 : World, U2 = (U.setCell ⟨a, i, none⟩ (.int .i64 (((o + 1) % k : Nat) : Int))).drew → HalfX w U2 p g a k gb base (Isl.ifG true k (Isl.acc R G A k m) (i + 1) G) (Isl.ifA true k (Isl.acc R G A k m) (i + 1) A) (Isl.grant R G k m) (Isl.next R G A k m) i u13) := by
                  rintro U2 rfl
                  have s1 : Sans (fun j => j = g ∨ j = a) U ((U.setCell ⟨a, i, none⟩ (.int .i64 (((o + 1) % k : Nat) : Int))).drew) := (Sans.of_set (F := fun j => j = g ∨ j = a) U ⟨a, i, none⟩ _ (.inr rfl)).then (Sans.drew _)
                  rw [Isl.ifG_hit HKe.out, Isl.ifA_hit HKe.out]
                  exact HalfX.moved HF3 hd2 (by omega) s1 ((hA.setA (i, o) hik).below (drewN_below _ 1))
                obtain ⟨t2, ht2⟩ : ∃ t2 : Nat, (o + 1) % k = t2 := ⟨_, rfl⟩
                rw [ht2] at e3 k1 HV2
                clear ht2 hA HF3
                go_wp2_with fail
                go_region_held3 (fun w' => w'.cell? ⟨p, 1, none⟩ = some (.slice (some ⟨a, 0, none⟩) k k)) (go_keep) (fail)
                obtain ⟨U2, hU2⟩ : ∃ U2, U2 = (U.setCell ⟨a, i, none⟩ (.int .i64 (t2 : Nat))).drew := ⟨_, rfl⟩
                rw [← hU2]
                have HF2 : Hid (HalfX w U2 p g a k gb base (Isl.ifG true k (Isl.acc R G A k m) (i + 1) G) (Isl.ifA true k (Isl.acc R G A k m) (i + 1) A) (Isl.grant R G k m) (Isl.next R G A k m) i u13) := HV2.out U2 hU2
                clear k1 e3 e4 g1 r1 f1 HV2 hU2
                go_wp2_with (at_builtin; refine wpList_append_own _ rfl _ _ 25 rfl base 3 i0 _ 1 8 Tryd.underlying25 hi0 hz0 hz1 hz2 rfl (by decide) u13 i (icells i (Isl.next R G A k m)) rfl (HF2.out.2.2.1.alloc _) ⟨U2.heap.size, 0, none⟩ 1 1 [.int .i64 (o : Nat)] rfl rfl (one_cell .i64 _ U2 (o : Nat)) (one_one _ _) (by unfold maxLen; omega) (by omega) (by have := HF2.out.2.2.2.2; simp; omega) ?_; intro v' u2 hown hg hnil)
                have HF3 : Hid (Half w u2 p g a k gb base R G A m true (i + 1) v') := HalfX.grown HF2.out hd2 hg HN2.out.symm hown
                clear hown hg hnil HF2
                go_roundw
                case rel => first | exact ⟨i + 1, by omega, by go_num, HF3.out⟩ | ((repeat apply Exists.intro); exact ⟨⟨i + 1, by omega, by go_num, HF3.out⟩, rfl⟩)
                case measure => simp [intOf]; omega
          · have dX : decide (X < 0) = false := decide_eq_false hX0
            have hKe := Isl.acc_taken (R := R) (G := G) (A := A) (n := k) (m := m) (i := i) (by rw [HX.out]; omega)
            have HKe : Hid (Isl.acc R G A k m i = -1) := hKe
            have HNx : Hid (Isl.next R G A k m i = X) := by
              show _ = _
              rw [Isl.next_keeps (by rw [HX.out]; omega), HX.out]
            have HF2 : Hid (Half w wr p g a k gb base R G A m first i u13) := HF.out
            clear hKe HF
            go_wp2_with (at_builtin; refine wpList_append_own _ rfl _ _ 25 rfl base 3 i0 _ 1 8 Tryd.underlying25 hi0 hz0 hz1 hz2 rfl (by decide) u13 i (icells i (Isl.next R G A k m)) rfl (HF2.out.2.2.1.alloc _) ⟨wr.heap.size, 0, none⟩ 1 1 [.int .i64 X] rfl rfl (one_cell .i64 _ wr X) (one_one _ _) (by unfold maxLen; omega) (by omega) (by have := HF2.out.2.2.2.2; simp; omega) ?_; intro v' u2 hown hg hnil)
            have HF3 : Hid (Half w u2 p g a k gb base R G A m first (i + 1) v') := by
              have := HalfX.grown HF2.out hd2 hg HNx.out.symm hown
              rw [← Isl.ifG_miss HKe.out, ← Isl.ifA_miss HKe.out] at this
              exact this
            clear hown hg hnil HF2
            go_roundw
            case rel => first | exact ⟨i + 1, by omega, by go_num, HF3.out⟩ | ((repeat apply Exists.intro); exact ⟨⟨i + 1, by omega, by go_num, HF3.out⟩, rfl⟩)
            case measure => simp [intOf]; omega
        · obtain rfl : i = k := by omega
          go_wp2_with fail
          obtain ⟨h1, h2, h3, h4, h5⟩ := HF.out
          obtain ⟨b, cap, hv, hb, hI, _, _⟩ := ints_of_owns n1 h3
          rw [hv]
          go_ret
          rw [Isl.ifG_all, Isl.ifA_all, ← HGA.out.1, ← HGA.out.2] at h1
          exact ⟨b, cap, rfl, by omega, hI, h1, h4⟩
end Go.Proofs.YtlojadodabddpaaDoor
