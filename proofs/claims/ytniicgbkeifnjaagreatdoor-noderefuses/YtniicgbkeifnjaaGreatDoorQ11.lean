/-
  Contracts and plain facts that the walks lean on (MaskF, MaskW, MaskS, Sans2, IslA). Conditions: none but those that each states.
-/
import Derived.Test.YtniicgbkeifnjaaGreatDoorQ10
import Derived.Scope
import Derived.Deep.Slices
import Derived.ChangeSame
import Derived.LaidMore
import Derived.Stop.Joined
import Derived.SizedLaws
import Derived.ShutString
import Derived.ChangeOld
import Derived.Below
import Derived.Carry
import Derived.Test.YtniicgbkeifnjaaGreatDoorQ7
namespace Go.Proofs.YtniicgbkeifnjaaGreatDoor.M
open Go.ChangeShapes Go.WideShapes Go.ChangeAt Go.RowKit Go.Shelf
set_option linter.unusedVariables false
set_option maxRecDepth 100000
attribute [local go_sem] Oper.semAt_some
theorem wpIn_scope_wide {n : Nat} {P : Program} {c : Code} {Q : Exit → Act → World → Prop} {a : Act} {w : World} (h : c.wpIn Fence.wide n P (Exit.noGoto Q) a w) : (Code.scope c).wpIn Fence.wide n P Q a w :=
  wpIn_wide.2 (wp_scope_straight (wpIn_wide.1 h))
def mark (D : Nat) : Deferred := { target := .collected D, args := #[] }
def Marks (n₀ : Nat) (W : World) (Ds : List Nat) : Prop := Ds.Nodup ∧ ∀ D ∈ Ds, n₀ ≤ D ∧ W.heap[D]? = some (.deferred (some []))
theorem Marks.keeps {n₀ : Nat} {W W' : World} {Ds : List Nat} (h : Marks n₀ W Ds) (k : KeepsFrom 0 W W') : Marks n₀ W' Ds :=
  ⟨h.1, fun D hD => ⟨(h.2 D hD).1, k.same D _ (Nat.zero_le _) (h.2 D hD).2 rfl⟩⟩
theorem Marks.cons {n₀ D B : Nat} {W W' : World} {Ds : List Nat} (h : Marks n₀ W Ds) (k : KeepsFrom 0 W W') (hB : W.heap.size ≤ D) (hn : n₀ ≤ D) (hK : W'.heap[D]? = some (.deferred (some []))) : Marks n₀ W' (D :: Ds) := by
  have h2 := h.keeps k
  refine ⟨List.nodup_cons.2 ⟨fun hD => ?_, h.1⟩, fun E hE => ?_⟩
  · have := (Array.getElem?_eq_some_iff.1 (h.2 D hD).2).1
    omega
  · rcases List.mem_cons.1 hE with rfl | hE
    · exact ⟨hn, hK⟩
    · exact h2.2 E hE
theorem leaves_marks {F : Fence} {n n₀ : Nat} {P : Program} {fn : Func} {tmps : Array Value} {R : Ending → World → Prop} {X : World → Prop}
    (hX : ∀ (W : World) (D : Nat), n₀ ≤ D → W.heap[D]? = some (.deferred (some [])) → X W → X (W.putObj D (.deferred none)))
    (hend : ∀ W, X W → LeavesInM F n P fn tmps R [] .returning W) : ∀ (Ds : List Nat) (W : World), Marks n₀ W Ds → X W → LeavesInM F n P fn tmps R (Ds.map mark) .returning W
  | [], W, _, hx => hend W hx
  | D :: Ds, W, hm, hx => by
    have hD := hm.2 D (by simp)
    have hnd := List.nodup_cons.1 hm.1
    refine ⟨by simp, .inl ⟨D, _, rfl, run_takeDeferred hD.2, ?_⟩⟩
    refine leaves_marks hX hend Ds _ ⟨hnd.2, fun E hE => ?_⟩ (hX W D hD.1 hD.2 hx)
    have h2 := hm.2 E (by simp [hE])
    exact ⟨h2.1, (World.putObj_heap_other (by intro e; subst e; exact hnd.1 hE)).trans h2.2⟩
def St (B n : Nat) (W : World) (f : Nat → Nat) : Prop :=
  W.cell? ⟨B, 0, none⟩ = some (.int .i64 (n : Nat)) ∧ W.cell? ⟨B + 1 + 1, 0, none⟩ = some (.slice (some ⟨B + 1, 0, none⟩) n n) ∧ Cols W (B + 1) n f
theorem St.kept {B n : Nat} {W W' : World} {f : Nat → Nat} {row : Option Nat} (h : St B n W f) (hg : W.grownBy W' row) (hr : ∀ r, row = some r → ∃ o : Obj, W.heap[r]? = some o ∧ o.isCells = false) : St B n W' f :=
  ⟨cell_kept h.1 hg hr, cell_kept h.2.1 hg hr, fun k hk => ⟨cell_kept (h.2.2 k hk).1 hg hr, (frozen_kept (h.2.2 k hk).1 hg hr).trans (h.2.2 k hk).2⟩⟩
theorem St.alloc {B n : Nat} {W : World} {f : Nat → Nat} (h : St B n W f) (o : Obj) : St B n (W.alloc o) f := h.kept (World.grownBy_alloc W o none) (fun r e => by cases e)
theorem St.congr {B n : Nat} {W : World} {f g : Nat → Nat} (h : St B n W f) (e : ∀ k, k < n → f k = g k) : St B n W g := ⟨h.1, h.2.1, h.2.2.congr e⟩
theorem St.drew {B n : Nat} {W : World} {f : Nat → Nat} (h : St B n W f) : St B n W.drew f := h
theorem St.set {B n k v : Nat} {W : World} {f : Nat → Nat} (h : St B n W f) (hk : k < n) : St B n (W.setCell ⟨B + 1, k, none⟩ (.int .u16 (v : Nat))) (fun j => if j = k then v else f j) :=
  ⟨(World.cell?_setCell_other _ _ _ _ (fun e => by cases e)).trans h.1, (World.cell?_setCell_other _ _ _ _ (fun e => by cases e)).trans h.2.1, h.2.2.set hk⟩
def fcol (rows : List Nat) (i : Nat) (pre : List Nat) (k : Nat) : Nat := Mask.col rows k i ||| (if k ∈ pre then 2 ^ i else 0)
theorem fcol_lt (rows : List Nat) {i : Nat} (pre : List Nat) (k : Nat) (hi : i < 16) : fcol rows i pre k < 65536 := by
  unfold fcol
  have h1 := Mask.col_lt16 rows k i (by omega)
  refine Nat.or_lt_two_pow (n := 16) h1 ?_
  split
  · exact Nat.pow_lt_pow_right (by omega) hi
  · decide
theorem fcol_nil (rows : List Nat) (i k : Nat) : fcol rows i [] k = Mask.col rows k i := by simp [fcol]
theorem fcol_snoc (rows : List Nat) (i : Nat) (pre : List Nat) (x y : Nat) : (if y = x then fcol rows i pre x ||| 2 ^ i else fcol rows i pre y) = fcol rows i (pre ++ [x]) y := by
  unfold fcol
  by_cases e : y = x
  · subst e
    rw [if_pos rfl, if_pos (show y ∈ pre ++ [y] by simp), Nat.or_assoc]
    by_cases h : y ∈ pre
    · rw [if_pos h, Nat.or_self]
    · rw [if_neg h, Nat.zero_or]
  · rw [if_neg e]
    have : (y ∈ pre ++ [x]) ↔ y ∈ pre := by simp [e]
    simp only [this]
theorem fcol_bit {rows : List Nat} {i k : Nat} {pre : List Nat} (h : k ∈ pre ↔ (rows.getD i 0).testBit k = true) : fcol rows i pre k = Mask.col rows k (i + 1) := by
  unfold fcol
  rw [Mask.col]
  by_cases hb : (rows.getD i 0).testBit k = true
  · rw [if_pos (h.2 hb), if_pos hb, Mask.or_pow (Mask.col_lt _ _ _)]
  · rw [if_neg (fun e => hb (h.1 e)), if_neg hb, Nat.or_zero, Nat.add_zero]
theorem fcol_done {rows : List Nat} {i : Nat} (hr : rows.getD i 0 < 65536) (k : Nat) : fcol rows i (Mask.bitsOf (rows.getD i 0)) k = Mask.col rows k (i + 1) := fcol_bit (Mask.mem_bits hr)
theorem fcol_stop {rows : List Nat} {i n x : Nat} {q : List Nat} (hr : rows.getD i 0 < 65536) (hp : q ++ [x] <+: Mask.bitsOf (rows.getD i 0)) (hx : n ≤ x) {k : Nat} (hk : k < n) : fcol rows i q k = Mask.col rows k (i + 1) := by
  obtain ⟨t, ht⟩ := hp
  have hs := Mask.bits_sorted (rows.getD i 0)
  rw [← ht, List.pairwise_append] at hs
  refine fcol_bit ⟨fun h => (Mask.mem_bits hr).1 (by rw [← ht]; simp [h]), fun h => ?_⟩
  have hm := (Mask.mem_bits hr).2 h
  rw [← ht] at hm
  rcases List.mem_append.1 hm with h1 | h1
  · rcases List.mem_append.1 h1 with h2 | h2
    · exact h2
    · simp at h2; omega
  · have := hs.2.2 x (by simp) k h1
    omega
set_option maxRecDepth 100000 in
set_option maxHeartbeats 2000000 in
theorem turn_cols (a : Option Addr) (len cap : Nat) (hcap : len ≤ cap) (hcm : cap ≤ 9223372036854775807) (rows : List Nat) (hl : ∀ x ∈ rows, x < 65536) (n : Nat) (hn1 : 1 ≤ n) (hn : n ≤ 16) (w : World) (hr : Nums .u16 w a len rows) (hT : Tab w) :
    Calls Tryz.prog 166 #[.slice a len cap, .int .i64 (n : Nat)] w fun e w' => ∃ g, e = .returned (.slice (some ⟨g, 0, none⟩) n n) ∧ Cols w' g n (fun k => (Mask.turn rows n).getD k 0) ∧ w.heap.size ≤ g ∧ Below w.heap.size w w' := by
  refine (callsIn_wide (n := 3)).1 ?_
  refine callsIn_of_wp_marks Tryz.func166 rfl trivial ?_ rfl
  simp only [Tryz.ntmps166, List.size_toArray, List.length_cons, List.length_nil, Nat.reduceAdd, Nat.reduceSub, Array.replicate_succ, Array.replicate_zero, List.push_toArray, List.append_toArray, List.nil_append, List.cons_append]
  have d1 : decide (1 ≤ (n : Int) ∧ (n : Int) ≤ 16) = true := decide_eq_true (by omega)
  have hmk := run_make_row' (P := Tryz.prog) 143 28 (.int .u16 0) 2 Tryz.underlying143 infoM rfl .i64 .i64 n (by omega) (by omega)
  have HR : Hid (Nums .u16 w a len rows) := hr
  have HL : Hid (∀ x ∈ rows, x < 65536) := hl
  have HT : Hid (Tab w) := hT
  obtain ⟨M, hM⟩ : ∃ M, min len 16 = M := ⟨_, rfl⟩
  have hMl : M ≤ len := by omega
  have hMc : (M : Int) ≤ (cap : Int) := by omega
  have e1 : (if (16 : Int) < (len : Int) then (16 : Int) else (len : Int)) = (M : Nat) := by split <;> omega
  clear hr hl hT
  gi_wp2
  refine wpIn_scope_wide ?_
  gi_wp2_with (refine ⟨trivial, ?_⟩; gi_at_call 209; refine (callsIn_wide.2 (isSize_any _ _)).mono ?_; rintro e w' ⟨rfl, hq⟩; obtain rfl := hq.symm)
  clear hq
  refine wpIn_label ?_
  gi_wp2
  have hst : St w.heap.size n (((w.alloc (.cells #[.int .i64 (n : Nat)] 3)).alloc (.cells (madeCells #[.int .u16 0] n) 28)).alloc (.cells #[.slice (some ⟨w.heap.size + 1, 0, none⟩) n n] 143)) (fun _ => 0) := by
    have c0 := newCell w (.int .i64 (n : Nat)) 3
    have c1 := Cols.made (w.alloc (.cells #[.int .i64 (n : Nat)] 3)) n
    have c2 := newCell ((w.alloc (.cells #[.int .i64 (n : Nat)] 3)).alloc (.cells (madeCells #[.int .u16 0] n) 28)) (.slice (some ⟨w.heap.size + 1, 0, none⟩) n n) 143
    simp only [World.size_alloc] at c1 c2
    exact ⟨cellOn _ (cellOn _ c0.1), c2.1, fun k hk => ⟨cellOn _ (c1 k hk).1, frozenOn _ (c1 k hk).1 (c1 k hk).2⟩⟩
  have hB0 : Below w.heap.size w (((w.alloc (.cells #[.int .i64 (n : Nat)] 3)).alloc (.cells (madeCells #[.int .u16 0] n) 28)).alloc (.cells #[.slice (some ⟨w.heap.size + 1, 0, none⟩) n n] 143)) := (((Below.refl _ w).alloc (Nat.le_refl _) _).alloc (by simp) _).alloc (by simp; omega) _
  generalize (((w.alloc (.cells #[.int .i64 (n : Nat)] 3)).alloc (.cells (madeCells #[.int .u16 0] n) 28)).alloc (.cells #[.slice (some ⟨w.heap.size + 1, 0, none⟩) n n] 143)) = U at hst hB0 ⊢
  refine wpIn_loop (fun a' W => ∃ (i : Nat) (Ds : List Nat) (v6 v7 v21 v22 v23 v24 v25 v26 v39 : Value), i ≤ M ∧ a' = { tmps := #[.slice a len cap, .int .i64 (n : Nat), undef, .pointer (some ⟨w.heap.size, 0, none⟩), .slice none 0 0, .pointer (some ⟨w.heap.size + 1 + 1, 0, none⟩), v6, v7, undef, .int .i64 (n : Nat), .bool true, .bool false, .int .i64 (n : Nat), .slice (some ⟨w.heap.size + 1, 0, none⟩) n n, .slice a len cap, .slice a len cap, .int .i64 (len : Nat), .int .i64 (M : Nat), .slice a M cap, .int .i64 (M : Nat), .int .i64 (i : Nat), v21, v22, v23, v24, v25, v26, undef, undef, undef, undef, undef, undef, undef, undef, undef, undef, undef, undef, v39, undef], defers := Ds.map mark } ∧ St w.heap.size n W (fun k => Mask.col rows k i) ∧ Marks w.heap.size W Ds ∧ Below w.heap.size w W)
    (fun a' _ => M - (intOf (a'.tmps.getD 20 undef)).toNat) ?_ ?_
  · exact ⟨0, [], undef, undef, undef, undef, undef, undef, undef, undef, undef, Nat.zero_le _, rfl, hst.congr (fun k _ => rfl), ⟨List.nodup_nil, fun D hD => by cases hD⟩, hB0⟩
  · rintro a' W ⟨i, Ds, v6, v7, v21, v22, v23, v24, v25, v26, v39, hi, rfl, hS, hD, hB⟩
    clear hst hB0
    have HS : Hid (St w.heap.size n W (fun k => Mask.col rows k i)) := hS
    have HD : Hid (Marks w.heap.size W Ds) := hD
    have HB : Hid (Below w.heap.size w W) := hB
    have hsz := hB.size
    clear hS hD hB
    by_cases hiM : i < M
    · obtain ⟨b, off, rfl, hx⟩ := (HR.out.below HB.out).at (show i < len by omega)
      obtain ⟨row, hrow⟩ : ∃ row, rows.getD i 0 = row := ⟨_, rfl⟩
      have hrow16 : row < 65536 := by rw [← hrow]; exact HL.out _ (by have e := HR.out.1; simp [List.getD, show i < rows.length by omega])
      rw [hrow] at hx
      have HRow : Hid (rows.getD i 0 = row) := hrow
      clear hrow
      gi_wp2_with (refine ⟨trivial, ?_⟩; gi_at_call 210; refine (each_in (3 - 1) row _).mono ?_; rintro e w' ⟨rfl, rfl⟩)
      have stV : St w.heap.size n ((W.alloc (.cells #[.int .i64 (i : Nat)] 3)).alloc (.cells #[.int .u16 (row : Nat)] 28)) (fun k => Mask.col rows k i) := (HS.out.alloc _).alloc _
      have c0 := newCell W (.int .i64 (i : Nat)) 3
      have c1 := newCell (W.alloc (.cells #[.int .i64 (i : Nat)] 3)) (.int .u16 (row : Nat)) 28
      rw [World.size_alloc] at c1
      have cI := cellOn (.cells #[.int .u16 (row : Nat)] 28) c0.1
      have cR := c1.1
      have bV : Below w.heap.size w ((W.alloc (.cells #[.int .i64 (i : Nat)] 3)).alloc (.cells #[.int .u16 (row : Nat)] 28)) := (HB.out.alloc hsz _).alloc (by simp; omega) _
      have kV : KeepsFrom 0 W ((W.alloc (.cells #[.int .i64 (i : Nat)] 3)).alloc (.cells #[.int .u16 (row : Nat)] 28)) := ((KeepsOthers.alloc W _).trans (KeepsOthers.alloc _ _)).from _
      have szV : ((W.alloc (.cells #[.int .i64 (i : Nat)] 3)).alloc (.cells #[.int .u16 (row : Nat)] 28)).heap.size = W.heap.size + 2 := by simp
      clear c0 c1 hx
      generalize ((W.alloc (.cells #[.int .i64 (i : Nat)] 3)).alloc (.cells #[.int .u16 (row : Nat)] 28)) = V at stV cI cR bV kV szV ⊢
      have h0 := HT.out.lt
      refine wpIn_rangeFunc_ownG rfl (by decide) (gf := 240) (lb := #[.pointer (some ⟨W.heap.size + 1, 0, none⟩)]) rfl trivial (enters_of Tryz.func240 (by kernel_rfl) rfl)
        (each_stops (3 - 1) (by decide) (W.heap.size + 1) w.heap.size row hrow16 h0 V (by omega) (by omega) cR (HT.out.below bV h0)) belowK_t (belowK_b (by omega)) (Below.refl _ _) (fun _ => rfl)
        (fun pre X => (St w.heap.size n X (fcol rows i pre) ∧ X.cell? ⟨W.heap.size, 0, none⟩ = some (.int .i64 (i : Nat))) ∧ (Below w.heap.size w X ∧ KeepsFrom 0 V X))
        (fun c pre X => (c = .exit 1 ∧ ∃ q x, pre = q ++ [x] ∧ n ≤ x ∧ St w.heap.size n X (fcol rows i q)) ∧ (Below w.heap.size w X ∧ KeepsFrom 0 V X))
        (OwnFrom.and (Own.from (fun s A B row hs hg hr => ⟨hs.1.kept hg hr, cell_kept hs.2 hg hr⟩) _) (OwnFrom.and (ownFrom_below (Nat.le_refl _) (by omega)) (ownFrom_keepsFrom (Nat.le_refl _))))
        (fun c => OwnFrom.and (Own.from (fun s A B row hs hg hr => by obtain ⟨h1, q, x, h2, h3, h4⟩ := hs; exact ⟨h1, q, x, h2, h3, h4.kept hg hr⟩) _) (OwnFrom.and (ownFrom_below (Nat.le_refl _) (by omega)) (ownFrom_keepsFrom (Nat.le_refl _))))
        ⟨⟨stV.congr (fun k _ => (fcol_nil rows i k).symm), cI⟩, bV, KeepsFrom.refl _ _⟩
        (fun x => { tmps := #[.slice (some ⟨b, off, none⟩) len cap, .int .i64 (n : Nat), undef, .pointer (some ⟨w.heap.size, 0, none⟩), .slice none 0 0, .pointer (some ⟨w.heap.size + 1 + 1, 0, none⟩), .pointer (some ⟨W.heap.size, 0, none⟩), .int .u16 (row : Nat), .int .i64 (x : Nat), .int .i64 (n : Nat), .bool true, .bool false, .int .i64 (n : Nat), .slice (some ⟨w.heap.size + 1, 0, none⟩) n n, .slice (some ⟨b, off, none⟩) len cap, .slice (some ⟨b, off, none⟩) len cap, .int .i64 (len : Nat), .int .i64 (M : Nat), .slice (some ⟨b, off, none⟩) M cap, .int .i64 (M : Nat), .int .i64 (i : Nat), .bool true, .int .i64 (i : Nat), .pointer (some ⟨b, off + i, none⟩), .int .u16 (row : Nat), .int .u16 (row : Nat), .func (.func 240) #[] #[.pointer (some ⟨W.heap.size + 1, 0, none⟩)], .int .i64 (x : Nat), undef, undef, undef, undef, undef, undef, undef, undef, undef, undef, undef, v39, undef], defers := [] }) ?assign ?body ?done ?stop
      case assign =>
        intro l x X K hK
        gi_wp2
        exact hK
      case body =>
        rintro l pre x X ⟨⟨hS, hcI⟩, hB, hKF⟩ _
        obtain ⟨cn, cb, cc⟩ := hS
        have HS2 : Hid (St w.heap.size n X (fcol rows i pre)) := ⟨cn, cb, cc⟩
        have HC2 : Hid (Cols X (w.heap.size + 1) n (fcol rows i pre)) := cc
        have HB2 : Hid (Below w.heap.size w X ∧ KeepsFrom 0 V X) := ⟨hB, hKF⟩
        clear stV cI cR bV kV cc hB hKF
        by_cases hxn : x < n
        · have d5 : decide (n ≤ x) = false := decide_eq_false (by omega)
          obtain ⟨y, hy⟩ : ∃ y, fcol rows i pre x = y := ⟨_, rfl⟩
          have hc := HC2.out x hxn
          rw [hy] at hc
          obtain ⟨c1, f1⟩ := hc
          have HY : Hid (fcol rows i pre x = y) := hy
          clear hy
          have hor : bits .or .u16 (y : Int) (IntKind.u16.wrap (2 ^ i)) = ((y ||| 2 ^ i : Nat) : Int) := by
            have hp : (2 : Nat) ^ i ≤ 32768 := Nat.pow_le_pow_right (j := 15) (by omega) (by omega)
            have hy16 : y < 65536 := by rw [← HY.out]; exact fcol_lt rows pre x (by omega)
            obtain ⟨p, hp2⟩ : ∃ p, 2 ^ i = p := ⟨_, rfl⟩
            have e2 : ((2 : Int) ^ i) = ((p : Nat) : Int) := by rw [← hp2]; simp
            rw [hp2] at hp ⊢
            rw [e2, IntKind.wrap_u16, show (p : Int) % 65536 = (p : Nat) by omega]
            exact u16_or_nat _ _ hy16 (by omega)
          have hne : w.heap.size + 1 ≠ W.heap.size := by have := cell_lt HS.out.2.1; simp at this; omega
          have HO : Hid (bits .or .u16 (y : Int) (IntKind.u16.wrap (2 ^ i)) = ((y ||| 2 ^ i : Nat) : Int)) := hor
          have hsnoc : St w.heap.size n (X.setCell ⟨w.heap.size + 1, x, none⟩ (.int .u16 ((y ||| 2 ^ i : Nat) : Int))) (fcol rows i (pre ++ [x])) := (HS2.out.set (v := y ||| 2 ^ i) hxn).congr (fun k _ => by rw [← HY.out]; exact fcol_snoc rows i pre x k)
          have hci2 : (X.setCell ⟨w.heap.size + 1, x, none⟩ (.int .u16 ((y ||| 2 ^ i : Nat) : Int))).cell? ⟨W.heap.size, 0, none⟩ = some (.int .i64 (i : Nat)) := (World.cell?_setCell_other _ _ _ _ (fun e => by have h := congrArg Addr.block e; dsimp only at h; omega)).trans hcI
          have HF : Hid (St w.heap.size n (X.setCell ⟨w.heap.size + 1, x, none⟩ (.int .u16 ((y ||| 2 ^ i : Nat) : Int))) (fcol rows i (pre ++ [x])) ∧ (X.setCell ⟨w.heap.size + 1, x, none⟩ (.int .u16 ((y ||| 2 ^ i : Nat) : Int))).cell? ⟨W.heap.size, 0, none⟩ = some (.int .i64 (i : Nat))) := ⟨hsnoc, hci2⟩
          have mixed : Tryz.prog.follows Departure.mixedOrders = true := by kernel_rfl
          clear hor hsnoc hci2
          gi_wp2
          gi_region_with_o (fail)
          all_goals
            rw [HO.out]
            exact ⟨((KeepsOthers.setCell _ _ _).trans (KeepsOthers.drew _)).from _, ((Below.refl _ X).setCell (p := ⟨w.heap.size + 1, x, none⟩) (by simp) _).drew, ⟨HF.out.1.drew, HF.out.2⟩, (HB2.out.1.setCell (p := ⟨w.heap.size + 1, x, none⟩) (by simp) _).drew, HB2.out.2.trans (((KeepsOthers.setCell _ _ _).trans (KeepsOthers.drew _)).from _)⟩
        · have d5 : decide (n ≤ x) = true := decide_eq_true (by omega)
          gi_wp2
          exact ⟨KeepsFrom.refl _ _, ⟨rfl, pre, x, rfl, by omega, HS2.out⟩, HB2.out⟩
      case done =>
        rintro D ys X hD rfl ⟨⟨hS, _⟩, hB, hKF⟩ hK
        have hm2 := HD.out.cons (B := 0) (kV.trans hKF) (D := D) (by omega) (by omega) hK
        have hS2 : St w.heap.size n X (fun k => Mask.col rows k (i + 1)) := hS.congr (fun k _ => by have e := HRow.out; subst e; exact fcol_done hrow16 k)
        have HE : Hid (St w.heap.size n X (fun k => Mask.col rows k (i + 1)) ∧ Marks w.heap.size X (D :: Ds) ∧ Below w.heap.size w X) := ⟨hS2, hm2, hB⟩
        clear hS hB hKF hK hm2 hS2 stV cI cR bV kV
        gi_wp2
        exact ⟨⟨i + 1, D :: Ds, _, _, _, _, _, _, _, _, _, by omega, by rw [show ((i + 1 : Nat) : Int) = (i : Int) + 1 from rfl]; rfl, HE.out.1, HE.out.2.1, HE.out.2.2⟩, by simp [intOf]; omega⟩
      case stop =>
        rintro D c pre X hD hpre ⟨⟨rfl, q, x, rfl, hxn, hS⟩, hB, hKF⟩ hK
        have hm2 := HD.out.cons (B := 0) (kV.trans hKF) (D := D) (by omega) (by omega) hK
        have hS2 : St w.heap.size n X (fun k => Mask.col rows k (i + 1)) := hS.congr (fun k hk => by have e := HRow.out; subst e; exact fcol_stop hrow16 hpre hxn hk)
        have HE : Hid (St w.heap.size n X (fun k => Mask.col rows k (i + 1)) ∧ Marks w.heap.size X (D :: Ds) ∧ Below w.heap.size w X) := ⟨hS2, hm2, hB⟩
        clear hS hB hKF hK hm2 hS2 stV cI cR bV kV
        gi_wp2
        exact ⟨⟨i + 1, D :: Ds, _, _, _, _, _, _, _, _, _, by omega, by rw [show ((i + 1 : Nat) : Int) = (i : Int) + 1 from rfl]; rfl, HE.out.1, HE.out.2.1, HE.out.2.2⟩, by simp [intOf]; omega⟩
    · obtain rfl : i = M := by omega
      have hcb := HS.out.2.1
      gi_wp2
      refine leaves_marks (n₀ := w.heap.size) (X := fun X => Cols X (w.heap.size + 1) n (fun k => (Mask.turn rows n).getD k 0) ∧ Below w.heap.size w X) ?_ ?_ Ds W HD.out ⟨?_, HB.out⟩
      · rintro X D hD hK ⟨h1, h2⟩
        refine ⟨fun j hj => ⟨cell_kept (h1 j hj).1 (grownBy_putObj' _ D (.deferred none)) (fun r e => by cases e; exact ⟨_, hK, rfl⟩), (frozen_kept (h1 j hj).1 (grownBy_putObj' _ D (.deferred none)) (fun r e => by cases e; exact ⟨_, hK, rfl⟩)).trans (h1 j hj).2⟩, h2.trans (belowK_b (w := w) (Nat.le_refl _) X D _ _ hD hK rfl rfl)⟩
      · rintro X ⟨h1, h2⟩
        exact ⟨_, results_tmp rfl _ _ _, w.heap.size + 1, rfl, h1, by omega, h2⟩
      · refine HS.out.2.2.congr (fun k hk => ?_)
        rw [Mask.turn_at hk, HR.out.1, hM]
end Go.Proofs.YtniicgbkeifnjaaGreatDoor.M
namespace Go.Proofs.YtniicgbkeifnjaaGreatDoor.M
open Go.ChangeShapes Go.WideShapes Go.ChangeAt Go.RowKit
set_option linter.unusedVariables false
set_option maxRecDepth 100000
def laidL : List (String × DataW Unit) := Rows.nodeInjectsRow.laid
def tabName : String := Rows.nodeInjectsRow.named[0]!
theorem ownKnobs : ownKnob Tryz.prog.godebug = none := by kernel_rfl
theorem laidOuts : laidOutB Tryz.prog = true := by kernel_rfl
theorem gTab : Tryz.prog.globalNamed tabName = some 0 := by kernel_rfl
theorem gTabType : (Tryz.prog.globals[0]?).map (·.type) = some 316 := by kernel_rfl
theorem cells8 : Tryz.prog.cellsOf 5 = 1 := by kernel_rfl
theorem cellsTab : Tryz.prog.cellsOf 316 = 32 := by kernel_rfl
theorem door_met (os : Os) (args : Array Value) : laidMetH Tryz.prog laidL ((World.doorLaid Tryz.prog 400 os).forCall (fun _ _ => 0) ⟨#[], args, []⟩).memory :=
  laidMetH_of_parts3 (fuel := 8) (laidMet_of_run' 8 (by kernel_rfl) (by kernel_rfl)) (by kernel_rfl) (by kernel_rfl)
theorem tab_of_laid {W : World} (h : laidMetH Tryz.prog laidL W) : Tab W := by
  rw [MakeChecks.laidMetH_plain _ _ _ (by kernel_rfl)] at h
  have hT : Lib.TabIs Tryz.prog W tabName .u8 Mask.tab := Lib.tabIs_of_head gTab gTabType Tryz.underlying316 Tryz.underlying5 cells8 cellsTab (show laidMet Tryz.prog ((tabName, Lib.tabData .u8 Mask.tab) :: []) W from h)
  intro i hi
  exact hT.cell gTab i hi
theorem add_lit (b off j : Nat) : (⟨b, off, none⟩ : Addr).add j = ⟨b, off + j, none⟩ := by
  unfold Addr.add; split
  · rename_i h; rw [h]; rfl
  · rfl
theorem nat_u16 {a : Int} (h : (Lit.int .u16 a).wf = true) : ∃ m : Nat, a = (m : Nat) ∧ m < 65536 := by
  have b := bounds_u16 h
  obtain ⟨m, rfl⟩ := Int.eq_ofNat_of_zero_le b.1
  exact ⟨m, rfl, by omega⟩
theorem nat_u8 {a : Int} (h : (Lit.int .u8 a).wf = true) : ∃ m : Nat, a = (m : Nat) ∧ m < 256 := by
  have b := bounds_u8 h
  obtain ⟨m, rfl⟩ := Int.eq_ofNat_of_zero_le b.1
  exact ⟨m, rfl, by omega⟩
end Go.Proofs.YtniicgbkeifnjaaGreatDoor.M
namespace Go.Proofs.YtniicgbkeifnjaaGreatDoor.M
open Go.ChangeShapes Go.WideShapes Go.ChangeAt Go.RowKit
set_option linter.unusedVariables false
set_option maxRecDepth 100000
theorem later {w0 w w' : World} (h : Below w0.heap.size w0 w) (k : Below w.heap.size w w') : Below w0.heap.size w0 w' := h.trans (k.mono h.size)
structure Since (u : World) where
  w : World
  h : Below u.heap.size u w
theorem Since.any (u : World) : Nonempty (Since u) := ⟨⟨u, Below.refl _ _⟩⟩
theorem Since.cell {u : World} (n : Since u) {b o : Nat} {v : Value} (h : u.cell? ⟨b, o, none⟩ = some v) : n.w.cell? ⟨b, o, none⟩ = some v :=
  (n.h.cell (p := ⟨b, o, none⟩) (cell_lt h)).trans h
theorem region_since {P : Program} {id : Nat} {Q : Exit → Act → World → Prop} {a : Act} {u w : World} {l : List Oper} (hm : P.follows .mixedOrders = true) (hB : Region.lexB .any l.toArray = true) (hw : Below u.heap.size u w)
    (h : wpQuiet P l.toArray (fun w' => ∃ n : Since u, w' = n.w) (fun a' => ∀ w', (∃ n : Since u, w' = n.w) → Q .normal a' w') l a) : (Code.region id l.toArray true).wp P Q a w :=
  wp_region_quiet (C := fun w' => ∃ n : Since u, w' = n.w) hm hB ⟨⟨w.drew, hw.drew⟩, rfl⟩ (by simpa using h)
theorem Since.calls {P : Program} {f : FuncId} {args : Array Value} {u : World} (n : Since u) {v : Value} (h : Calls P f args n.w fun e w' => e = .returned v ∧ Below n.w.heap.size n.w w') :
    Calls P f args n.w fun e w' => e = .returned v ∧ ∃ m : Since u, w' = m.w :=
  h.mono fun e w' ⟨he, hb⟩ => ⟨he, ⟨w', later n.h hb⟩, rfl⟩
theorem Since.reads {P : Program} {f : FuncId} {args : Array Value} {u : World} (n : Since u) {v : Value} (h : Calls P f args n.w fun e w' => e = .returned v ∧ w' = n.w) :
    Calls P f args n.w fun e w' => e = .returned v ∧ ∃ m : Since u, w' = m.w :=
  h.mono fun e w' ⟨he, hb⟩ => ⟨he, n, hb⟩
end Go.Proofs.YtniicgbkeifnjaaGreatDoor.M
namespace Go.Proofs.YtniicgbkeifnjaaGreatDoor.M
open Go.ChangeShapes Go.WideShapes Go.ChangeAt Go.RowKit
set_option linter.unusedVariables false
set_option maxRecDepth 100000
theorem fresh (w : World) (o : Obj) : Below w.heap.size w (w.alloc o) := (Below.refl _ _).alloc (Nat.le_refl _) o
theorem Tab.sans {F : Nat → Prop} {w w' : World} (h : Tab w) (k : Sans F w w') (hn : ¬ F 0) : Tab w' := fun i hi => (k.cell (p := ⟨0, i, none⟩) h.lt hn).trans (h i hi)
theorem Cols.sans {F : Nat → Prop} {W W' : World} {g n : Nat} {f : Nat → Nat} (c : Cols W g n f) (k : Sans F W W') (hn : ¬ F g) : Cols W' g n f := fun j hj => by
  have hlt : g < W.heap.size := cell_lt (c j hj).1
  exact ⟨(k.cell (p := ⟨g, j, none⟩) hlt hn).trans (c j hj).1, (k.frozen (p := ⟨g, j, none⟩) hlt hn).trans (c j hj).2⟩
end Go.Proofs.YtniicgbkeifnjaaGreatDoor.M
namespace Go.Proofs.YtniicgbkeifnjaaGreatDoor.M
open Go.ChangeShapes Go.WideShapes Go.ChangeAt Go.RowKit
set_option linter.unusedVariables false
set_option maxRecDepth 100000
def Ints (W : World) (g n : Nat) (f : Nat → Int) : Prop := ∀ k, k < n → W.cell? ⟨g, k, none⟩ = some (.int .i64 (f k)) ∧ W.frozen? ⟨g, k, none⟩ = false
theorem Ints.congr {W : World} {g n : Nat} {f h : Nat → Int} (c : Ints W g n f) (e : ∀ k, k < n → f k = h k) : Ints W g n h := fun k hk => by
  rw [← e k hk]
  exact c k hk
theorem Ints.set {W : World} {g n k : Nat} {v : Int} {f : Nat → Int} (c : Ints W g n f) (hk : k < n) : Ints (W.setCell ⟨g, k, none⟩ (.int .i64 v)) g n (fun j => if j = k then v else f j) := fun j hj => by
  refine ⟨?_, by rw [World.frozen?_setCell]; exact (c j hj).2⟩
  show _ = some (Value.int .i64 (if j = k then v else f j))
  by_cases e : j = k
  · subst e
    rw [if_pos rfl]
    exact World.cell?_setCell_same _ _ _ (c j hj).1
  · rw [if_neg e, World.cell?_setCell_other _ _ _ _ (fun h => e (by cases h; rfl))]
    exact (c j hj).1
theorem Ints.made (w : World) (n : Nat) (t : TypeId) : Ints (w.alloc (.cells (madeCells #[.int .i64 0] n) t)) w.heap.size n (fun _ => 0) := fun k hk => by
  have hb := World.alloc_heap_new w (.cells (madeCells #[.int .i64 0] n) t)
  constructor
  · unfold World.cell?
    dsimp only
    rw [hb]
    simp [madeCells, hk, Nat.mod_one]
  · unfold World.frozen?
    dsimp only
    rw [hb]
    simp
theorem Ints.sans {F : Nat → Prop} {W W' : World} {g n : Nat} {f : Nat → Int} (c : Ints W g n f) (k : Sans F W W') (hn : ¬ F g) : Ints W' g n f := fun j hj => by
  have hlt : g < W.heap.size := cell_lt (c j hj).1
  exact ⟨(k.cell (p := ⟨g, j, none⟩) hlt hn).trans (c j hj).1, (k.frozen (p := ⟨g, j, none⟩) hlt hn).trans (c j hj).2⟩
theorem Ints.below {W W' : World} {g n : Nat} {f : Nat → Int} (c : Ints W g n f) (k : Below W.heap.size W W') : Ints W' g n f := c.sans (F := fun _ => False) (Sans.of_below k) (fun e => e)
theorem Ints.lt {W : World} {g n : Nat} {f : Nat → Int} (c : Ints W g n f) (hn : 1 ≤ n) : g < W.heap.size := cell_lt (c 0 hn).1
structure Arb (w : World) (p g a n : Nat) (G A : Nat → Nat) : Prop where
  c0 : w.cell? ⟨p, 0, none⟩ = some (.slice (some ⟨g, 0, none⟩) n n)
  c1 : w.cell? ⟨p, 1, none⟩ = some (.slice (some ⟨a, 0, none⟩) n n)
  gs : Ints w g n (fun k => (G k : Nat))
  ac : Ints w a n (fun k => (A k : Nat))
  pg : p ≠ g
  pa : p ≠ a
  ga : g ≠ a
  n1 : 1 ≤ n
  n2 : n ≤ 16
  gl : ∀ o, o < n → G o < n
  al : ∀ o, o < n → A o < n
theorem Arb.sans {F : Nat → Prop} {w w' : World} {p g a n : Nat} {G A : Nat → Nat} (h : Arb w p g a n G A) (k : Sans F w w') (hp : ¬ F p) (hg : ¬ F g) (ha : ¬ F a) : Arb w' p g a n G A :=
  ⟨(k.cell (p := ⟨p, 0, none⟩) (cell_lt h.c0) hp).trans h.c0, (k.cell (p := ⟨p, 1, none⟩) (cell_lt h.c1) hp).trans h.c1, h.gs.sans k hg, h.ac.sans k ha, h.pg, h.pa, h.ga, h.n1, h.n2, h.gl, h.al⟩
theorem Arb.below {w w' : World} {p g a n : Nat} {G A : Nat → Nat} (h : Arb w p g a n G A) (k : Below w.heap.size w w') : Arb w' p g a n G A := h.sans (F := fun _ => False) (Sans.of_below k) (fun e => e) (fun e => e) (fun e => e)
theorem Arb.lp {w : World} {p g a n : Nat} {G A : Nat → Nat} (h : Arb w p g a n G A) : p < w.heap.size := cell_lt h.c0
theorem Arb.lg {w : World} {p g a n : Nat} {G A : Nat → Nat} (h : Arb w p g a n G A) : g < w.heap.size := h.gs.lt h.n1
theorem Arb.la {w : World} {p g a n : Nat} {G A : Nat → Nat} (h : Arb w p g a n G A) : a < w.heap.size := h.ac.lt h.n1
theorem arb_new {u : World} {g a n : Nat} (t : TypeId) (hn : 1 ≤ n ∧ n ≤ 16) (hg : Ints u g n (fun _ => 0)) (ha : Ints u a n (fun _ => 0)) (hne : g ≠ a) :
    Arb (u.alloc (.cells #[.slice (some ⟨g, 0, none⟩) n n, .slice (some ⟨a, 0, none⟩) n n] t)) u.heap.size g a n (fun _ => 0) (fun _ => 0) := by
  have lg := hg.lt hn.1
  have la := ha.lt hn.1
  exact ⟨by simp, by simp, hg.below (fresh _ _), ha.below (fresh _ _), by omega, by omega, hne, hn.1, hn.2, fun o ho => by omega, fun o ho => by omega⟩
def Made (w w' : World) (p g a n : Nat) : Prop := Arb w' p g a n (fun _ => 0) (fun _ => 0) ∧ Below w.heap.size w w' ∧ w.heap.size ≤ p ∧ w.heap.size ≤ g ∧ w.heap.size ≤ a
theorem made_one (w : World) (n : Nat) (t s : TypeId) (hn : 1 ≤ n ∧ n ≤ 16) :
    Made w (((w.alloc (.cells (madeCells #[.int .i64 0] n) s)).alloc (.cells (madeCells #[.int .i64 0] n) s)).alloc (.cells #[.slice (some ⟨w.heap.size, 0, none⟩) n n, .slice (some ⟨w.heap.size + 1, 0, none⟩) n n] t)) (w.heap.size + 1 + 1) w.heap.size (w.heap.size + 1) n := by
  have h1 := (Ints.made w n s).below (fresh _ (.cells (madeCells #[.int .i64 0] n) s))
  have h2 := Ints.made (w.alloc (.cells (madeCells #[.int .i64 0] n) s)) n s
  rw [World.size_alloc] at h2
  have h3 := arb_new t hn h1 h2 (by omega)
  rw [World.size_alloc, World.size_alloc] at h3
  exact ⟨h3, later (later (fresh _ _) (fresh _ _)) (fresh _ _), by omega, by omega, by omega⟩
theorem made_two (w : World) (n : Nat) (t s : TypeId) (hn : 1 ≤ n ∧ n ≤ 16) :
    Made w (((w.alloc (.cells (madeCells #[.int .i64 0] n) s)).alloc (.cells (madeCells #[.int .i64 0] n) s)).alloc (.cells #[.slice (some ⟨w.heap.size + 1, 0, none⟩) n n, .slice (some ⟨w.heap.size, 0, none⟩) n n] t)) (w.heap.size + 1 + 1) (w.heap.size + 1) w.heap.size n := by
  have h1 := (Ints.made w n s).below (fresh _ (.cells (madeCells #[.int .i64 0] n) s))
  have h2 := Ints.made (w.alloc (.cells (madeCells #[.int .i64 0] n) s)) n s
  rw [World.size_alloc] at h2
  have h3 := arb_new t hn h2 h1 (by omega)
  rw [World.size_alloc, World.size_alloc] at h3
  exact ⟨h3, later (later (fresh _ _) (fresh _ _)) (fresh _ _), by omega, by omega, by omega⟩
theorem Made.drew {w w' : World} {p g a n : Nat} (h : Made w w' p g a n) : Made w w'.drew p g a n := ⟨h.1.below (drewN_below _ 1), later h.2.1 (drewN_below _ 1), h.2.2⟩
set_option maxHeartbeats 400000 in
theorem new_good (n : Nat) (h : 1 ≤ n ∧ n ≤ 16) (w : World) :
    Calls Tryz.prog 40 #[.int .i64 (n : Nat)] w fun e w' => ∃ p g a, e = .returned (.pointer (some ⟨p, 0, none⟩)) ∧ Made w w' p g a n := by
  have hmk := run_make_row' (P := Tryz.prog) 27 3 (.int .i64 0) 8 Tryz.underlying27 infoI rfl .i64 .i64 n (by omega) (by omega)
  have h1 : decide ((n : Int) < 1) = false := decide_eq_false (by omega)
  have h2 : decide ((16 : Int) < n) = false := decide_eq_false (by omega)
  go_enter Tryz.func40, Tryz.ntmps40
  go_wp2_with fail
  go_region
  · go_wp2_with fail
    go_ret
    first | exact ⟨_, _, _, rfl, made_one w n _ _ h⟩ | exact ⟨_, _, _, rfl, (made_one w n _ _ h).drew⟩ | exact ⟨_, _, _, rfl, (made_one w n _ _ h).drewN _⟩
  · go_wp2_with fail
    go_ret
    first | exact ⟨_, _, _, rfl, made_two w n _ _ h⟩ | exact ⟨_, _, _, rfl, (made_two w n _ _ h).drew⟩ | exact ⟨_, _, _, rfl, (made_two w n _ _ h).drewN _⟩
theorem ports_any {w : World} {p g a n : Nat} {G A : Nat → Nat} (h : Arb w p g a n G A) :
    Calls Tryz.prog 165 #[.pointer (some ⟨p, 0, none⟩)] w fun e w' => e = .returned (.int .i64 (n : Nat)) ∧ w' = w := by
  have hc := h.c0
  clear h
  go_enter Tryz.func165, Tryz.ntmps165
  go_wp2_with fail
  go_ret
  exact ⟨rfl, rfl⟩
def icells (n : Nat) (f : Nat → Int) : List Value := (List.range n).map fun k => Value.int .i64 (f k)
theorem icells_len (n : Nat) (f : Nat → Int) : (icells n f).length = n := by simp [icells]
theorem icells_at {n k : Nat} {f : Nat → Int} (h : k < n) : (icells n f)[k]? = some (.int .i64 (f k)) := by simp [icells, h]
theorem icells_one (n : Nat) (f : Nat → Int) : ∀ u ∈ icells n f, u.oneCell' = true := by
  intro u hu
  obtain ⟨k, _, rfl⟩ := List.mem_map.1 hu
  rfl
theorem ints_of_owns {w : World} {base n : Nat} {e : TypeId} {v : Value} {f : Nat → Int} (hn : 1 ≤ n) (h : w.ownsRow base e 1 v n (icells n f)) : ∃ b cap, v = .slice (some ⟨b, 0, none⟩) n cap ∧ base ≤ b ∧ Ints w b n f ∧ n ≤ cap ∧ cap ≤ maxLen := by
  rcases h.2 with ⟨hv, h0⟩ | ⟨g, cap, cur, hv, hb, hg, hnc, hcm, hcs, htake⟩
  · omega
  · subst hv
    refine ⟨g, cap, rfl, hb, fun k hk => ⟨?_, h.frozenAt k⟩, hnc, hcm⟩
    rw [h.cellAt k (by omega), icells_at hk]
def sq (l : List Nat) (k : Nat) : Nat → Nat := fun i => if i < k then l.getD i 0 else 0
end Go.Proofs.YtniicgbkeifnjaaGreatDoor.M
