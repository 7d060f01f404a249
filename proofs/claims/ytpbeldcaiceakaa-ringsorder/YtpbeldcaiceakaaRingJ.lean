/-
  Package rings, as it landed: Pop in one form, and All, over rings whose memory is their own. Conditions: none but that the rings are such.
-/
import Derived.Test.YtpbeldcaiceakaaRingI
namespace Go.Proofs.Ytpbeldcaiceakaa
open Go.ChangeShapes Go.WideShapes Go.ChangeAt Go.RowKit
set_option linter.unusedVariables false

def popT (b : Bool) (t : Nat) : Nat := if b then t - 1 else t
theorem upd_self {α : Type} (f : Pl → α) (q : Pl) : upd f q (f q) = f := by
  funext r
  by_cases e : r = q
  · rw [e, upd_same]
  · rw [upd_other _ _ e]
/-- packets, as cells one behind the other -/
def pcells (xs : List Pk) : List Value := xs.flatMap fun x => [.int .i64 x.s, .int .i64 x.d, .int .i64 x.l, .int .u32 x.b]
theorem pcells_snoc (xs : List Pk) (x : Pk) : pcells (xs ++ [x]) = pcells xs ++ [.int .i64 x.s, .int .i64 x.d, .int .i64 x.l, .int .u32 x.b] := by simp [pcells]
theorem pcells_length (xs : List Pk) : (pcells xs).length = xs.length * 4 := by
  induction xs with
  | nil => rfl
  | cons x r ih =>
    have : pcells (x :: r) = [.int .i64 x.s, .int .i64 x.d, .int .i64 x.l, .int .u32 x.b] ++ pcells r := by simp [pcells]
    rw [this, List.length_append, ih]
    simp
    omega
theorem infoPk : (Try.prog.info? 27).map (fun i => (i.zero, i.size, i.bytes)) = some (some (.agg #[.int .i64 0, .int .i64 0, .int .i64 0, .int .u32 0]), 4, 32) := by kernel_rfl
/-- a row of packets of the call's own -/
def PRow (w : World) (base : Nat) (v : Value) (xs : List Pk) : Prop := w.ownsRow base 27 4 v xs.length (pcells xs)
theorem PRow.below {w w' : World} {base : Nat} {v : Value} {xs : List Pk} (h : PRow w base v xs) (k : Below w.heap.size w w') : PRow w' base v xs := by
  exact World.ownsRow.kept h (row := Option.none) ⟨k.os, k.tape, k.output, k.size, fun j hj _ => k.block j hj⟩ (by cases hv : v.ownBlock with | none => exact .inl rfl | some k => exact .inr (by simp))
theorem four_one (a b c d : Int) : ∀ u ∈ [Value.int .i64 a, .int .i64 b, .int .i64 c, .int .u32 d], u.oneCell' = true := by
  intro u hu
  simp only [List.mem_cons, List.not_mem_nil, or_false] at hu
  rcases hu with rfl | rfl | rfl | rfl <;> rfl
theorem four_cell (w : World) (a b c d : Int) : ∀ (j : Nat) (u : Value), [Value.int .i64 a, .int .i64 b, .int .i64 c, .int .u32 d][j]? = some u → (w.alloc (.cells #[.int .i64 a, .int .i64 b, .int .i64 c, .int .u32 d] 27)).cell? ((⟨w.heap.size, 0, none⟩ : Addr).add j) = some u := by
  intro j u hu
  rw [Addr.add_lit]
  match j with
  | 0 => simpa using hu
  | 1 => simpa using hu
  | 2 => simpa using hu
  | 3 => simpa using hu
  | (j + 4) => simp at hu
theorem take_snoc {xs : List Pk} {k : Nat} {x : Pk} (h : xs[k]? = some x) : xs.take (k + 1) = xs.take k ++ [x] := by
  rw [List.take_add_one, h]; rfl
section
variable {w : World} {F : Nat → Prop} {p P L n t c : Nat} {Qs : Pl → List Pk}
theorem RAt.pos (h : RAt w F p P L n t c Qs) {q : Pl} (hq : Qs q ≠ []) : 1 ≤ t := by
  obtain ⟨G, pp, mb, S, E, V, sl, h, h2⟩ := h
  obtain ⟨x, r, hx⟩ := List.exists_cons_of_ne_nil hq
  obtain ⟨k, sr, _, hS⟩ := (h.held q).first hx
  have := h.pool.inv.room hS
  omega
theorem RAt.top (h : RAt w F p P L n t c Qs) : t ≤ n := by
  obtain ⟨G, pp, mb, S, E, V, sl, h, h2⟩ := h
  omega
theorem rpop_any (h : RAt w F p P L n t c Qs) (hc : c < 1000) (i o l : Int) (hq : Wf (i, o, l)) (x : Pk) (b : Bool) (hx : hd (Qs (i, o, l)) = x) (hb : (!(Qs (i, o, l)).isEmpty) = b) :
    Calls Try.prog 14 #[.pointer (some ⟨p, 0, none⟩), .int .i64 i, .int .i64 o, .int .i64 l] w fun e w' => e = .returned (.tuple #[.agg #[.int .i64 x.s, .int .i64 x.d, .int .i64 x.l, .int .u32 x.b], .bool b]) ∧ RAt w' F p P L n (popT b t) (c + 1) (upd Qs (i, o, l) (Qs (i, o, l)).tail) ∧ Sans F w w' := by
  cases hc2 : Qs (i, o, l) with
  | nil =>
    rw [hc2] at hx hb
    subst hx hb
    refine (rpop_none h i o l hq hc2).mono ?_
    rintro e w' ⟨he, hbel⟩
    refine ⟨he, ?_, Sans.of_below hbel⟩
    have e2 : upd Qs (i, o, l) ([] : List Pk).tail = Qs := by
      have := upd_self Qs (i, o, l)
      rw [hc2] at this
      exact this
    rw [e2]
    exact (h.below hbel).mono (Nat.le_succ _)
  | cons y r =>
    rw [hc2] at hx hb
    subst hx hb
    exact rpop_some h hc i o l hq y r hc2
set_option maxHeartbeats 2000000 in
set_option maxRecDepth 100000 in
theorem all_any (h : RAt w F p P L n t c Qs) (hc : c < 1000) (i o l : Int) (hq : Wf (i, o, l)) (xs : List Pk) (hxs : Qs (i, o, l) = xs) :
    Calls Try.prog 19 #[.pointer (some ⟨p, 0, none⟩), .int .i64 i, .int .i64 o, .int .i64 l] w fun e w' => ∃ v, e = .returned v ∧ PRow w' w.heap.size v xs ∧ Below w.heap.size w w' := by
  obtain ⟨G, pp, mb, S, E, V, sl, h, _⟩ := h
  subst hxs
  have hlen := (h.held (i, o, l)).1
  have hlc := h.len (i, o, l)
  obtain ⟨m, hm⟩ : ∃ m, (Qs (i, o, l)).length = m := ⟨_, rfl⟩
  rw [hm] at hlen
  obtain ⟨a, cap, hV⟩ : ∃ a cap, V (i, o, l) = .slice a m cap := by
    rcases h.row (i, o, l) with ⟨e, e2⟩ | ⟨g, off, cap, e, _⟩
    · rw [e2] at hlen
      exact ⟨none, 0, by rw [e, ← hlen]; rfl⟩
    · exact ⟨_, cap, by rw [e, hlen]⟩
  have hc4 := h.c4
  have hl : (Instr.lookup 52 (.map (some mb)) (.agg #[.int .i64 i, .int .i64 o, .int .i64 l]) false).run Try.prog w = .ok (.slice a m cap) w := by
    have := h.map.look hq
    rw [hV] at this
    exact this
  have HR : Hid (RIn w F G p pp mb P L n S E c V sl Qs ∧ V (i, o, l) = .slice a m cap ∧ (sl (i, o, l)).length = m ∧ (Qs (i, o, l)).length = m) := ⟨h, hV, hlen, hm⟩
  have hm2 : m ≤ 1000 := by omega
  obtain ⟨i0, hi0, hz0, hz1, hz2⟩ := info_parts infoPk
  clear h hV hlen hm hlc
  go_enter Try.func19, Try.ntmps19
  go_wp2_with fail
  go_loopw [9, 11, 12, 13, 25] (fun al _ _ _ j wr => ∃ k : Nat, k ≤ m ∧ j = .int .i64 k ∧ PRow wr w.heap.size al ((Qs (i, o, l)).take k) ∧ Below w.heap.size w wr) (fun _ _ _ _ j _ => m - (intOf j).toNat)
  case atStart => exact ⟨0, Nat.zero_le _, rfl, World.ownsRow_nil _ _ _ _, Below.refl _ _⟩
  case round =>
    obtain ⟨k, hk, rfl, hrow, hbel⟩ := hrel
    have HB : Hid (PRow wr w.heap.size u9 ((Qs (i, o, l)).take k) ∧ Below w.heap.size w wr) := ⟨hrow, hbel⟩
    clear hrow hbel
    by_cases hkm : k < m
    · obtain ⟨h, hV, hsl, hQ⟩ := HR.out
      obtain ⟨y, hy⟩ : ∃ y, (sl (i, o, l))[k]? = some y := ⟨_, List.getElem?_eq_getElem (by omega)⟩
      obtain ⟨x, hx, hS⟩ := (h.held (i, o, l)).2 k y hy
      have h2 := h.below HB.out.2
      have hr := h2.row (i, o, l)
      rw [hV] at hr
      rcases hr with ⟨_, e⟩ | ⟨g, off, cap', e, hgl, _, hcm, hcells, _⟩
      · rw [e] at hsl; simp at hsl; omega
      · simp only [Value.slice.injEq] at e
        obtain ⟨rfl, hml, rfl⟩ := e
        clear hml
        have hcy := hcells k y hy
        have hc3 := h2.c3
        have HP : Hid (PoolAt wr G pp n S E ∧ S[y]? = some (some x)) := ⟨h2.pool, hS⟩
        have HX : Hid ((Qs (i, o, l))[k]? = some x) := hx
        have hki : (k : Int) < m := by omega
        have htl : Hid (((Qs (i, o, l)).take k).length = k) := by show _ = _; rw [List.length_take]; omega
        clear h h2 hV hsl hQ hy hx hS hcells hcm hl hc4
        go_wp2_with fail
        refine (get_yes HP.out.1 HP.out.2).mono ?_
        rintro e u ⟨rfl, hb⟩
        have HU : Hid (PRow (u.alloc (.cells #[.int .i64 x.s, .int .i64 x.d, .int .i64 x.l, .int .u32 x.b] 27)) w.heap.size u9 ((Qs (i, o, l)).take k) ∧ Below w.heap.size w (u.alloc (.cells #[.int .i64 x.s, .int .i64 x.d, .int .i64 x.l, .int .u32 x.b] 27))) := ⟨(HB.out.1.below hb).below (fresh _ _), later (later HB.out.2 hb) (fresh _ _)⟩
        have HO : Hid ((u.alloc (.cells #[.int .i64 x.s, .int .i64 x.d, .int .i64 x.l, .int .u32 x.b] 27)).ownsRow w.heap.size 27 4 u9 k (pcells ((Qs (i, o, l)).take k))) := by
          have := HU.out.1
          unfold PRow at this
          rw [htl.out] at this
          exact this
        have hsz : w.heap.size ≤ u.heap.size := Nat.le_trans HB.out.2.size hb.size
        clear hb HB hcy hc3
        go_wp2_with (at_builtin; refine wpList_append_own _ rfl _ _ 42 rfl w.heap.size 27 i0 _ 4 32 Try.underlying42 hi0 hz0 hz1 hz2 rfl (by decide) u9 k (pcells ((Qs (i, o, l)).take k)) rfl (HO.out.alloc _) ⟨u.heap.size + 1, 0, none⟩ 1 1 [.int .i64 x.s, .int .i64 x.d, .int .i64 x.l, .int .u32 x.b] rfl rfl (by simpa using four_cell (u.alloc (.cells #[.int .i64 x.s, .int .i64 x.d, .int .i64 x.l, .int .u32 x.b] 27)) x.s x.d x.l x.b) (four_one _ _ _ _) (by unfold maxLen; omega) (by omega) (by simp; omega) ?_; intro v' u2 hown hg hnil)
        go_roundw
        case rel =>
          have R1 : PRow u2 w.heap.size v' ((Qs (i, o, l)).take (k + 1)) := by
            unfold PRow
            rw [take_snoc HX.out, pcells_snoc, List.length_append, htl.out]
            exact hown
          have R2 : Below w.heap.size w u2 := (later HU.out.2 (fresh _ _)).grown hg (by simp; omega) (fun j e => (HO.out.lt j e).1)
          first | exact ⟨k + 1, by omega, by go_num, R1, R2⟩ | ((repeat apply Exists.intro); exact ⟨⟨k + 1, by omega, by go_num, R1, R2⟩, rfl⟩)
        case measure => simp [intOf]; omega
    · obtain rfl : k = m := by omega
      go_wp2_with fail
      go_ret
      have ht : (Qs (i, o, l)).take k = Qs (i, o, l) := List.take_of_length_le (by have := HR.out.2.2.2; omega)
      refine ⟨u9, rfl, ?_, HB.out.2⟩
      have := HB.out.1
      rw [ht] at this
      exact this
end
end Go.Proofs.Ytpbeldcaiceakaa
