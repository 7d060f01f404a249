/-
  Package link, as it landed: bytes.Clone, and what New and Send come to. Conditions: none but that the link is one, and the bytes are at most a million.
-/
import Derived.Test.YtjelfenkbngfiaaLinkSpec
import Derived.Laws.OwnMore
import Derived.Lib.SliceRun
namespace Go.Proofs.Ytjelfenkbngfiaa
open Go.ChangeShapes Go.WideShapes Go.ChangeAt Go.RowKit
set_option linter.unusedVariables false

theorem owns_lift {w w' : World} {F : Nat → Prop} {base n size : Nat} {e : TypeId} {a : Option Addr} {cap : Nat} {xs : List Value} (h : w.ownsRow base e size (.slice a n cap) n xs) (k : Sans F w w') (hn : ∀ ad, a = some ad → ¬ F ad.block) : w'.ownsRow base e size (.slice a n cap) n xs := by
  refine ⟨h.1, ?_⟩
  rcases h.2 with h2 | ⟨g, cp, cur, e, hb, hg, r⟩
  · exact .inl h2
  · refine .inr ⟨g, cp, cur, e, hb, ?_, r⟩
    have ha : a = some ⟨g, 0, none⟩ := by simp only [Value.slice.injEq] at e; exact e.1
    have hlt : g < w.heap.size := by
      rcases Nat.lt_or_ge g w.heap.size with h' | h'
      · exact h'
      · simp [Array.getElem?_eq_none h'] at hg
    exact (k.block g hlt (hn _ ha)).trans hg
theorem Own.sans {w w' : World} {F : Nat → Prop} {base : Nat} {a : Option Addr} {len cap : Nat} {l : List Nat} (h : Own w base a len cap l) (k : Sans F w w') (hn : ∀ ad, a = some ad → ¬ F ad.block) : Own w' base a len cap l := ⟨owns_lift h.1 k hn, h.2⟩
theorem Own.zero {w : World} {base : Nat} {a : Option Addr} {len cap : Nat} {l : List Nat} (h : Own w base a len cap l) : Own w 0 a len cap l := by
  refine ⟨⟨h.1.1, ?_⟩, h.2⟩
  rcases h.1.2 with h2 | ⟨g, cp, cur, e, hb, r⟩
  · exact .inl h2
  · exact .inr ⟨g, cp, cur, e, Nat.zero_le _, r⟩
theorem Own.nilled {w : World} {base : Nat} {a : Option Addr} {len cap : Nat} {l : List Nat} (h : Own w base a len cap l) : a = none → len = 0 ∧ cap = 0 := by
  intro e
  rcases h.shape with ⟨_, h1, h2⟩ | ⟨g', e2, _⟩
  · exact ⟨h1, h2⟩
  · rw [e2] at e; cases e
/-- a new slice with nothing in it -/
theorem Own.made0 (w : World) (base : Nat) (hb : base ≤ w.heap.size) : Own (w.alloc (.cells #[] 5)) base (some ⟨w.heap.size, 0, none⟩) 0 0 [] :=
  ⟨World.ownsRow_made w #[] 0 hb (by unfold maxLen; omega) rfl, (fun x hx => absurd hx List.not_mem_nil), rfl⟩
set_option maxHeartbeats 400000 in
theorem bclone_any (a : Option Addr) (len cap : Nat) (l : List Nat) (w : World) (h : Octs w a len l) (hn : a = none → len = 0 ∧ cap = 0) (hl : len ≤ 1000000) :
    Calls Try.prog 24 #[.slice a len cap] w fun e w' => ∃ a' cap', e = .returned (.slice a' len cap') ∧ Own w' w.heap.size a' len cap' l ∧ Below w.heap.size w w' := by
  have q29 : ∀ (w : World) (a : Option Addr) (n c n' c' : Nat), (binOp .eql 29 (.slice a n c) (.slice none n' c')).run Try.prog w = .ok (.bool a.isNone) w := fun w a n c n' c' => Lib.run_eql_slice_nil w _ _ a n c n' c' Try.underlying29
  cases a with
  | none =>
    obtain ⟨rfl, rfl⟩ := hn rfl
    have hl0 : l = [] := List.length_eq_zero_iff.1 h.1
    subst hl0
    clear h hn
    go_enter Try.func24, Try.ntmps24
    go_wp2_with fail
    go_ret
    exact ⟨none, 0, rfl, Own.empty _ _, Below.refl _ _⟩
  | some ad =>
    have HO : Hid (Octs w (some ad) len l) := h
    clear h hn
    go_enter Try.func24, Try.ntmps24
    go_wp2_with (at_builtin; refine wpList_append_bytes rfl _ _ rfl w.heap.size (some ⟨w.heap.size, 0, none⟩) 0 0 [] rfl (Own.made0 w _ (Nat.le_refl _)) (some ad) len cap l rfl (HO.out.below (fresh _ _)) (fun e => by cases e) (by omega) (by simp) len (by omega) l rfl ?_; intro a' cap' w' hown hb)
    go_ret
    exact ⟨a', cap', rfl, hown, (fresh _ _).trans hb⟩

/-- block p holds a link of the program's, with the rows rs; all its memory is in F, and no two rows share any -/
structure LinkAt (w : World) (F : Nat → Prop) (p room : Nat) (rs : List RowV) (a : Option Addr) (cap : Nat) : Prop where
  foot : ∀ k, F k → k < w.heap.size
  self : F p
  room1 : 1 ≤ room ∧ room ≤ 64 ∧ rs.length ≤ room
  f1 : w.frozen? ⟨p, 1, none⟩ = false
  c0 : w.cell? ⟨p, 0, none⟩ = some (.int .i64 room)
  c1 : w.cell? ⟨p, 1, none⟩ = some (.slice a rs.length cap)
  own : OwnL w a cap rs
  head : ∀ ad, a = some ad → F ad.block ∧ ad.block ≠ p
  rows : ∀ r ∈ rs, Own w 0 r.a r.len r.cap r.l ∧ r.len ≤ 1000000 ∧ ∀ ad, r.a = some ad → F ad.block ∧ ad.block ≠ p ∧ ∀ ah, a = some ah → ad.block ≠ ah.block
  apart : (rs.map RowV.a).Pairwise (fun x y => ∀ ax ay, x = some ax → y = some ay → ax.block ≠ ay.block)
theorem LinkAt.sans {w w' : World} {F G : Nat → Prop} {p room : Nat} {rs : List RowV} {a : Option Addr} {cap : Nat} (h : LinkAt w F p room rs a cap) (k : Sans G w w') (hd : ∀ k, F k → ¬ G k) : LinkAt w' F p room rs a cap := by
  have hp := h.foot p h.self
  have hn := hd p h.self
  exact ⟨fun j hj => Nat.lt_of_lt_of_le (h.foot j hj) k.size, h.self, h.room1, (k.frozen (p := ⟨p, 1, none⟩) hp hn).trans h.f1, (k.cell (p := ⟨p, 0, none⟩) hp hn).trans h.c0, (k.cell (p := ⟨p, 1, none⟩) hp hn).trans h.c1,
    h.own.sans k (fun ad e => hd _ (h.head ad e).1), h.head, fun r hr => ⟨(h.rows r hr).1.sans k (fun ad e => hd _ ((h.rows r hr).2.2 ad e).1), (h.rows r hr).2⟩, h.apart⟩
theorem LinkAt.below {w w' : World} {F : Nat → Prop} {p room : Nat} {rs : List RowV} {a : Option Addr} {cap : Nat} (h : LinkAt w F p room rs a cap) (k : Below w.heap.size w w') : LinkAt w' F p room rs a cap :=
  h.sans (G := fun _ => False) (Sans.of_below k) (fun _ _ e => e)
theorem LinkAt.not_head {w : World} {F : Nat → Prop} {p room : Nat} {rs : List RowV} {a : Option Addr} {cap : Nat} (h : LinkAt w F p room rs a cap) (n c : Nat) : some p ≠ (Value.slice a n c).ownBlock := by
  cases a with
  | none => simp [Value.ownBlock]
  | some ad => intro e; simp only [Value.ownBlock, Option.some.injEq] at e; exact (h.head ad rfl).2 e.symm
theorem LinkAt.owned {w w' : World} {F : Nat → Prop} {p room : Nat} {rs : List RowV} {a : Option Addr} {cap n : Nat} (h : LinkAt w F p room rs a cap) (hn : rs.length = n) (k : Below w.heap.size w w') : w'.ownsRow 0 29 1 (.slice a n cap) n (rs.map RowV.val) := by
  have := h.own.sans (F := fun _ => False) (Sans.of_below k) (fun _ _ e => e)
  unfold OwnL at this
  rwa [hn] at this
theorem LinkAt.still {w u0 u1 u2 : World} {F : Nat → Prop} {p room : Nat} {rs : List RowV} {a : Option Addr} {cap : Nat} {o : Obj} {r : Option Nat} (h : LinkAt w F p room rs a cap) (h1 : Below u0.heap.size u0 u1) (hg : (u1.alloc o).grownBy u2 r) (hn : some p ≠ r) (hf : u1.frozen? ⟨p, 1, none⟩ = false) (hp : p < u1.heap.size) : u2.frozen? ⟨p, 1, none⟩ = false := by
  rw [World.frozen?_of_block (w := u1.alloc o) (a := ⟨p, 1, none⟩) (hg.block p (by simp; omega) hn), (fresh u1 o).frozen (p := ⟨p, 1, none⟩) hp]
  exact hf
set_option maxHeartbeats 400000 in
theorem linkNew_good (room : Nat) (h : 1 ≤ room ∧ room ≤ 64) (w : World) :
    Calls Try.prog 12 #[.int .i64 room] w fun e w' => e = .returned (.pointer (some ⟨w.heap.size, 0, none⟩)) ∧ LinkAt w' (fun k => k = w.heap.size) w.heap.size room [] none 0 ∧ Below w.heap.size w w' := by
  have h1 : ¬ (room : Int) < 1 := by omega
  have h2 : ¬ (64 : Int) < room := by omega
  go_enter Try.func12, Try.ntmps12
  go_wp2
  go_ret
  refine ⟨rfl, ⟨fun k hk => by rw [hk]; simp, rfl, ⟨h.1, h.2, Nat.zero_le _⟩, by simp, by simp, by simp, OwnL.nil _, (fun ad e => by cases e), (fun r hr => by cases hr), List.Pairwise.nil⟩, fresh _ _⟩
set_option maxHeartbeats 400000 in
theorem linkNew_bad (z : Int) (hz : -9223372036854775808 ≤ z ∧ z ≤ 9223372036854775807) (h : z < 1 ∨ 64 < z) (w : World) :
    Calls Try.prog 12 #[.int .i64 z] w fun e w' => e = .returned (.pointer none) ∧ w' = w := by
  rcases h with h | h
  · go_enter Try.func12, Try.ntmps12
    go_wp2
    go_ret
    exact ⟨rfl, rfl⟩
  · have h1 : ¬ z < 1 := by omega
    go_enter Try.func12, Try.ntmps12
    go_wp2
    go_ret
    exact ⟨rfl, rfl⟩
set_option maxHeartbeats 400000 in
theorem linkSend_full (p room : Nat) (F : Nat → Prop) (rs : List RowV) (a : Option Addr) (cap : Nat) (b : Option Addr) (len bc : Nat) (w : World) (h : LinkAt w F p room rs a cap) (hf : room ≤ rs.length) :
    Calls Try.prog 14 #[.pointer (some ⟨p, 0, none⟩), .slice b len bc] w fun e w' => e = .returned (.bool false) ∧ ∃ n, w' = w.drewN n := by
  have hc0 := h.c0
  have hc1 := h.c1
  obtain ⟨n, hn⟩ : ∃ n, n = rs.length := ⟨_, rfl⟩
  rw [← hn] at hc1 hf
  have hr := h.room1
  have hnb : n ≤ 64 := by omega
  have hrb : room ≤ 64 := hr.2.1
  have hd : (room : Int) ≤ n := by omega
  clear hn h hr
  go_enter Try.func14, Try.ntmps14
  go_wp2_with fail
  go_quiet (fail)
  go_wp2_with fail
  go_ret
  exact ⟨rfl, nq, rfl⟩
theorem linkSend_end {w u1 u2 : World} {F : Nat → Prop} {p room n : Nat} {rs : List RowV} {a : Option Addr} {cap : Nat} {X : Obj} {ra : Option Addr} {len rc g cap2 base : Nat} {l : List Nat} (h : LinkAt w F p room rs a cap) (hn : rs.length = n) (hf : n < room)
    (w1 : Below w.heap.size w u1) (o1 : Own u1 base ra len rc l) (hbase : base = w.heap.size) (hl : len ≤ 1000000)
    (hown : u2.ownsRow 0 29 1 (.slice (some ⟨g, 0, none⟩) (n + 1) cap2) (n + 1) (rs.map RowV.val ++ [.slice ra len rc])) (hg : (u1.alloc X).grownBy u2 (Value.slice a n cap).ownBlock)
    (hat : (Value.slice a n cap).ownBlock = some g ∨ g = u1.heap.size + 1) (hlt : g < u2.heap.size) (s0 : u2.cell? ⟨p, 1, none⟩ = some (.slice a n cap)) (s1 : u2.frozen? ⟨p, 1, none⟩ = false) :
    ∃ F', LinkAt (u2.setCell ⟨p, 1, none⟩ (.slice (some ⟨g, 0, none⟩) (n + 1 : Nat) cap2)) F' p room (rs ++ [⟨ra, len, rc, l⟩]) (some ⟨g, 0, none⟩) cap2 ∧ Grows F w F' (u2.setCell ⟨p, 1, none⟩ (.slice (some ⟨g, 0, none⟩) (n + 1 : Nat) cap2)) := by
  subst hbase
  have hp := h.foot p h.self
  have hh : ∀ k, (Value.slice a n cap).ownBlock = some k → F k ∧ k ≠ p := by
    intro k hk
    cases a with
    | none => simp [Value.ownBlock] at hk
    | some ad =>
      simp only [Value.ownBlock, Option.some.injEq] at hk
      subst hk
      exact h.head ad rfl
  have SA : Sans (fun k => k = p ∨ (Value.slice a n cap).ownBlock = some k) u1 (u2.setCell ⟨p, 1, none⟩ (.slice (some ⟨g, 0, none⟩) (n + 1 : Nat) cap2)) := by
    refine ((Sans.of_below (fresh u1 X)).trans (Sans.of_grown hg (F := fun k => k = p ∨ (Value.slice a n cap).ownBlock = some k) (fun k hk => .inr hk)) (fun k hk => .inl hk)).trans (Sans.of_set u2 ⟨p, 1, none⟩ _ (F := fun k => k = p ∨ (Value.slice a n cap).ownBlock = some k) (.inl rfl)) (fun k hk => .inl hk)
  have SW : Sans (fun k => k = p ∨ (Value.slice a n cap).ownBlock = some k) w (u2.setCell ⟨p, 1, none⟩ (.slice (some ⟨g, 0, none⟩) (n + 1 : Nat) cap2)) := (Sans.of_below w1).trans SA (fun k hk => .inl hk)
  have hsz : u1.heap.size + 1 ≤ u2.heap.size := by have := hg.size; simpa using this
  have hgp : g ≠ p := by
    rcases hat with e | e
    · exact (hh g e).2
    · have := w1.size; omega
  have hset : (u2.setCell ⟨p, 1, none⟩ (.slice (some ⟨g, 0, none⟩) (n + 1 : Nat) cap2)).heap.size = u2.heap.size := by simp [World.setCell]
  have hgF : F g ∨ w.heap.size ≤ g := by
    rcases hat with e | e
    · exact .inl (hh g e).1
    · have := w1.size; exact .inr (by omega)
  have hro : ∀ ad, ra = some ad → w.heap.size ≤ ad.block ∧ ad.block < u1.heap.size := by
    intro ad e
    rcases o1.shape with ⟨e2, _⟩ | ⟨g', e2, hb, hlt', _⟩
    · rw [e2] at e; cases e
    · rw [e2] at e; cases e; exact ⟨hb, hlt'⟩
  refine ⟨fun k => F k ∨ (w.heap.size ≤ k ∧ k < u2.heap.size), ⟨?_, .inl h.self, ⟨h.room1.1, h.room1.2.1, by rw [List.length_append, hn]; exact hf⟩, ?_, ?_, ?_, ?_, ?_, ?_, ?_⟩, SW.mono ?_, ?_⟩
  · rintro k (hk | hk)
    · have := h.foot k hk
      have := w1.size
      rw [hset]; omega
    · rw [hset]; exact hk.2
  · simpa using s1
  · have c0 : u2.cell? ⟨p, 0, none⟩ = some (.int .i64 room) := by
      refine hg.cell (a := ⟨p, 0, none⟩) (((fresh u1 X).cell (p := ⟨p, 0, none⟩) (Nat.lt_of_lt_of_le hp w1.size)).trans ((w1.cell (p := ⟨p, 0, none⟩) hp).trans h.c0)) (fun e => (hh p e.symm).2 rfl)
    rw [World.cell?_setCell_other]
    · exact c0
    · simp
  · rw [List.length_append, hn]
    exact World.cell?_setCell_same _ _ _ s0
  · have := hown
    refine OwnL.sans (F := fun k => k = p) (w := u2) ?_ (Sans.of_set u2 ⟨p, 1, none⟩ _ rfl) (fun ad e => by cases e; exact hgp)
    unfold OwnL
    rw [List.length_append, hn, List.map_append]
    exact hown
  · intro ad e
    cases e
    refine ⟨?_, hgp⟩
    rcases hgF with e | e
    · exact .inl e
    · exact .inr ⟨e, hlt⟩
  · intro r hr
    rcases List.mem_append.1 hr with hr | hr
    · obtain ⟨h1, h2, h3⟩ := h.rows r hr
      refine ⟨h1.sans SW ?_, h2, fun ad e => ⟨.inl (h3 ad e).1, (h3 ad e).2.1, ?_⟩⟩
      · intro ad e hH
        rcases hH with hH | hH
        · exact (h3 ad e).2.1 hH
        · cases a with
          | none => simp [Value.ownBlock] at hH
          | some ah =>
            simp only [Value.ownBlock, Option.some.injEq] at hH
            exact (h3 ad e).2.2 ah rfl hH.symm
      · intro ah ea
        cases ea
        intro eb
        have hb := h.foot _ (h3 ad e).1
        rcases hat with e2 | e2
        · cases a with
          | none => simp [Value.ownBlock] at e2
          | some ah =>
            simp only [Value.ownBlock, Option.some.injEq] at e2
            exact (h3 ad e).2.2 ah rfl (by rw [e2]; exact eb)
        · have := w1.size
          simp only at eb
          omega
    · rw [List.mem_singleton] at hr
      subst hr
      refine ⟨o1.zero.sans SA ?_, hl, fun ad e => ⟨.inr ⟨(hro ad e).1, by have := (hro ad e).2; omega⟩, ?_, ?_⟩⟩
      · intro ad e hH
        have hb := (hro ad e).1
        rcases hH with hH | hH
        · omega
        · have := h.foot _ (hh _ hH).1; omega
      · have hb := (hro ad e).1
        omega
      · intro ah ea
        cases ea
        have hb := (hro ad e)
        rcases hat with e2 | e2
        · have := h.foot _ (hh g e2).1
          simp only; omega
        · simp only; omega
  · rw [List.map_append, List.pairwise_append]
    refine ⟨h.apart, by simp, ?_⟩
    intro x hx y hy ax ay ex ey
    obtain ⟨r, hr, rfl⟩ := List.mem_map.1 hx
    simp only [List.map_cons, List.map_nil, List.mem_singleton] at hy
    have h1 := h.foot _ ((h.rows r hr).2.2 ax ex).1
    have h2 := (hro ay (by rw [← hy]; exact ey)).1
    omega
  · rintro k (hk | hk)
    · rw [hk]; exact h.self
    · exact (hh k hk).1
  · rintro k (hk | hk)
    · exact .inl hk
    · exact .inr hk.1
set_option maxHeartbeats 1000000 in
theorem linkSend_room (p room : Nat) (F : Nat → Prop) (rs : List RowV) (a : Option Addr) (cap : Nat) (b : Option Addr) (len bc : Nat) (l : List Nat) (w : World) (h : LinkAt w F p room rs a cap) (hf : rs.length < room)
    (hb : Octs w b len l) (hbn : b = none → len = 0 ∧ bc = 0) (hbl : len ≤ 1000000) :
    Calls Try.prog 14 #[.pointer (some ⟨p, 0, none⟩), .slice b len bc] w fun e w' => ∃ F' r a' cap', e = .returned (.bool true) ∧ LinkAt w' F' p room (rs ++ [r]) a' cap' ∧ r.l = l ∧ r.len = len ∧ Grows F w F' w' := by
  have HR : Hid (LinkAt w F p room rs a cap) := h
  have HB : Hid (Octs w b len l ∧ (b = none → len = 0 ∧ bc = 0)) := ⟨hb, hbn⟩
  have hc0 := h.c0
  have hc1 := h.c1
  have hf1 := h.f1
  have hp := h.foot p h.self
  have hr := h.room1
  obtain ⟨n, hn⟩ : ∃ n, rs.length = n := ⟨_, rfl⟩
  have HN : Hid (rs.length = n) := hn
  rw [hn] at hc1 hf hr
  have hnb : n ≤ 64 := by omega
  have hrb : room ≤ 64 := hr.2.1
  have hd : ¬ (room : Int) ≤ n := by omega
  obtain ⟨i0, hi, hz0, hz1, hz2⟩ := info_parts infoL
  clear hn h hr hb hbn
  go_enter Try.func14, Try.ntmps14
  go_wp2_with fail
  go_quiet (fail)
  go_wp2_with fail
  go_region_law (first
    | (go_simp; go_at_call 24; refine (bclone_any b len bc l _ ?_ HB.out.2 hbl).mono ?_; (exact HB.out.1.below (drewN_below _ _)); rintro e u1 ⟨ra, rc, rfl, o1, h1⟩; have q0 : u1.cell? ⟨p, 1, none⟩ = some (.slice a n cap) := (h1.cell (p := ⟨p, 1, none⟩) hp).trans hc1; have q1 : u1.frozen? ⟨p, 1, none⟩ = false := (h1.frozen (p := ⟨p, 1, none⟩) hp).trans hf1; have q2 : p < u1.heap.size := Nat.lt_of_lt_of_le hp h1.size; have w1 : Below w.heap.size w u1 := later (drewN_below w _) h1; have ow : ∀ o : Obj, (u1.alloc o).ownsRow 0 29 1 (.slice a n cap) n (rs.map RowV.val) := fun o => HR.out.owned HN.out (later w1 (fresh u1 o)); dsimp only)
    | (refine step_append_lies (u1.alloc (.cells #[.slice ra len rc] 29)) (by rfl) _ _ 27 (by rfl) 0 29 i0 (.slice none 0 0) 1 24 Try.underlying27 hi hz0 hz1 hz2 rfl (by decide) (.slice a n cap) n (rs.map RowV.val) (by rfl) (ow _) ⟨u1.heap.size, 0, none⟩ 1 1 [.slice ra len rc] (by rfl) rfl (cell_one_new u1 _ _) (by simp [Value.oneCell']) (by decide) (by unfold maxLen; omega) (by omega) (Nat.zero_le _) (u1.heap.size + 1) (by simp) ?_; intro g cap2 u2 hown2 hg2 hat hlt2; have hpa : some p ≠ (Value.slice a n cap).ownBlock := HR.out.not_head n cap; have s0 := hg2.cell (a := ⟨p, 1, none⟩) (v := .slice a n cap) (((fresh u1 _).cell (p := ⟨p, 1, none⟩) q2).trans q0) hpa; have s1 : u2.frozen? ⟨p, 1, none⟩ = false := HR.out.still h1 hg2 hpa q1 q2))
  all_goals
    go_wp2_with fail
    go_ret
    obtain ⟨F', hF', hG⟩ := linkSend_end HR.out HN.out hf w1 o1 rfl hbl hown2 hg2 hat hlt2 s0 s1
    exact ⟨F', _, _, _, rfl, hF', rfl, rfl, hG⟩
end Go.Proofs.Ytjelfenkbngfiaa
