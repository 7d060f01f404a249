/-
  The document's own Link (package shunterref04): what New and Send come to. Conditions: none but that the link is one, and the bytes are at most a million.
-/
import Derived.Test.YtjelfenkbngfiaaFoot
import Derived.Maps.AppendAt
namespace Go.Proofs.Ytjelfenkbngfiaa
open Go.ChangeShapes Go.WideShapes Go.ChangeAt Go.RowKit
set_option linter.unusedVariables false

/-- block p holds a link of the document's, with the rows rs; all its memory is in F -/
structure RefAt (w : World) (F : Nat → Prop) (p room : Nat) (rs : List RowV) (a : Option Addr) (cap : Nat) : Prop where
  foot : ∀ k, F k → k < w.heap.size
  self : F p
  room1 : 1 ≤ room ∧ room ≤ 64 ∧ rs.length ≤ room
  f0 : w.frozen? ⟨p, 0, none⟩ = false
  c1 : w.cell? ⟨p, 1, none⟩ = some (.int .i64 room)
  c0 : w.cell? ⟨p, 0, none⟩ = some (.slice a rs.length cap)
  own : OwnL w a cap rs
  head : ∀ ad, a = some ad → F ad.block ∧ ad.block ≠ p
  rows : ∀ r ∈ rs, r.ok w ∧ r.len ≤ 1000000 ∧ ∀ ad, r.a = some ad → F ad.block ∧ ad.block ≠ p ∧ ∀ ah, a = some ah → ad.block ≠ ah.block
/-- what a call on it may have done: F' is of F or new -/
def Grows (F : Nat → Prop) (w : World) (F' : Nat → Prop) (w' : World) : Prop := Sans F w w' ∧ ∀ k, F' k → F k ∨ w.heap.size ≤ k
theorem RefAt.sans {w w' : World} {F G : Nat → Prop} {p room : Nat} {rs : List RowV} {a : Option Addr} {cap : Nat} (h : RefAt w F p room rs a cap) (k : Sans G w w') (hd : ∀ k, F k → ¬ G k) : RefAt w' F p room rs a cap := by
  have hp := h.foot p h.self
  have hn := hd p h.self
  exact ⟨fun j hj => Nat.lt_of_lt_of_le (h.foot j hj) k.size, h.self, h.room1, (k.frozen (p := ⟨p, 0, none⟩) hp hn).trans h.f0, (k.cell (p := ⟨p, 1, none⟩) hp hn).trans h.c1, (k.cell (p := ⟨p, 0, none⟩) hp hn).trans h.c0,
    h.own.sans k (fun ad e => hd _ (h.head ad e).1), h.head, fun r hr => ⟨(h.rows r hr).1.sans k (fun ad e => hd _ ((h.rows r hr).2.2 ad e).1), (h.rows r hr).2⟩⟩
theorem RefAt.below {w w' : World} {F : Nat → Prop} {p room : Nat} {rs : List RowV} {a : Option Addr} {cap : Nat} (h : RefAt w F p room rs a cap) (k : Below w.heap.size w w') : RefAt w' F p room rs a cap :=
  h.sans (G := fun _ => False) (Sans.of_below k) (fun _ _ e => e)

theorem RefAt.not_head {w : World} {F : Nat → Prop} {p room : Nat} {rs : List RowV} {a : Option Addr} {cap : Nat} (h : RefAt w F p room rs a cap) (n c : Nat) : some p ≠ (Value.slice a n c).ownBlock := by
  cases a with
  | none => simp [Value.ownBlock]
  | some ad => intro e; simp only [Value.ownBlock, Option.some.injEq] at e; exact (h.head ad rfl).2 e.symm
theorem RefAt.owned {w w' : World} {F : Nat → Prop} {p room : Nat} {rs : List RowV} {a : Option Addr} {cap n : Nat} (h : RefAt w F p room rs a cap) (hn : rs.length = n) (k : Below w.heap.size w w') : w'.ownsRow 0 29 1 (.slice a n cap) n (rs.map RowV.val) := by
  have := h.own.sans (F := fun _ => False) (Sans.of_below k) (fun _ _ e => e)
  unfold OwnL at this
  rwa [hn] at this
theorem RefAt.still {w u0 u1 u2 : World} {F : Nat → Prop} {p room : Nat} {rs : List RowV} {a : Option Addr} {cap : Nat} {o : Obj} {r : Option Nat} (h : RefAt w F p room rs a cap) (h1 : Below u0.heap.size u0 u1) (hg : (u1.alloc o).grownBy u2 r) (hn : some p ≠ r) (hf : u1.frozen? ⟨p, 0, none⟩ = false) (hp : p < u1.heap.size) : u2.frozen? ⟨p, 0, none⟩ = false := by
  rw [World.frozen?_of_block (w := u1.alloc o) (a := ⟨p, 0, none⟩) (hg.block p (by simp; omega) hn), (fresh u1 o).frozen (p := ⟨p, 0, none⟩) hp]
  exact hf
set_option maxHeartbeats 400000 in
theorem refNew_good (room : Nat) (h : 1 ≤ room ∧ room ≤ 64) (w : World) :
    Calls Try.prog 18 #[.int .i64 room] w fun e w' => e = .returned (.pointer (some ⟨w.heap.size, 0, none⟩)) ∧ RefAt w' (fun k => k = w.heap.size) w.heap.size room [] none 0 ∧ Below w.heap.size w w' := by
  have h1 : ¬ (room : Int) < 1 := by omega
  have h2 : ¬ (64 : Int) < room := by omega
  go_enter Try.func18, Try.ntmps18
  go_wp2
  go_ret
  refine ⟨rfl, ⟨fun k hk => by rw [hk]; simp, rfl, ⟨h.1, h.2, Nat.zero_le _⟩, by simp, by simp, by simp, OwnL.nil _, (fun ad e => by cases e), (fun r hr => by cases hr)⟩, fresh _ _⟩
set_option maxHeartbeats 400000 in
theorem refNew_bad (z : Int) (hz : -9223372036854775808 ≤ z ∧ z ≤ 9223372036854775807) (h : z < 1 ∨ 64 < z) (w : World) :
    Calls Try.prog 18 #[.int .i64 z] w fun e w' => e = .returned (.pointer none) ∧ w' = w := by
  rcases h with h | h
  · go_enter Try.func18, Try.ntmps18
    go_wp2
    go_ret
    exact ⟨rfl, rfl⟩
  · have h1 : ¬ z < 1 := by omega
    go_enter Try.func18, Try.ntmps18
    go_wp2
    go_ret
    exact ⟨rfl, rfl⟩
set_option maxHeartbeats 400000 in
theorem refSend_full (p room : Nat) (F : Nat → Prop) (rs : List RowV) (a : Option Addr) (cap : Nat) (b : Option Addr) (len bc : Nat) (w : World) (h : RefAt w F p room rs a cap) (hf : room ≤ rs.length) :
    Calls Try.prog 22 #[.pointer (some ⟨p, 0, none⟩), .slice b len bc] w fun e w' => e = .returned (.bool false) ∧ ∃ n, w' = w.drewN n := by
  have hc0 := h.c0
  have hc1 := h.c1
  obtain ⟨n, hn⟩ : ∃ n, n = rs.length := ⟨_, rfl⟩
  rw [← hn] at hc0 hf
  have hr := h.room1
  have hnb : n ≤ 64 := by omega
  have hrb : room ≤ 64 := hr.2.1
  have hd : (room : Int) ≤ n := by omega
  clear hn h hr
  go_enter Try.func22, Try.ntmps22
  go_wp2_with fail
  go_quiet (fail)
  go_wp2_with fail
  go_ret
  exact ⟨rfl, nq, rfl⟩
theorem refSend_end {w u1 u2 : World} {F : Nat → Prop} {p room n : Nat} {rs : List RowV} {a : Option Addr} {cap : Nat} {X : Obj} {ra : Option Addr} {len rc g cap2 base : Nat} {l : List Nat} (h : RefAt w F p room rs a cap) (hn : rs.length = n) (hf : n < room)
    (w1 : Below w.heap.size w u1) (o1 : Own u1 base ra len rc l) (hbase : base = w.heap.size) (hl : len ≤ 1000000)
    (hown : u2.ownsRow 0 29 1 (.slice (some ⟨g, 0, none⟩) (n + 1) cap2) (n + 1) (rs.map RowV.val ++ [.slice ra len rc])) (hg : (u1.alloc X).grownBy u2 (Value.slice a n cap).ownBlock)
    (hat : (Value.slice a n cap).ownBlock = some g ∨ g = u1.heap.size + 1) (hlt : g < u2.heap.size) (s0 : u2.cell? ⟨p, 0, none⟩ = some (.slice a n cap)) (s1 : u2.frozen? ⟨p, 0, none⟩ = false) :
    ∃ F', RefAt (u2.setCell ⟨p, 0, none⟩ (.slice (some ⟨g, 0, none⟩) (n + 1 : Nat) cap2)) F' p room (rs ++ [⟨ra, len, rc, l⟩]) (some ⟨g, 0, none⟩) cap2 ∧ Grows F w F' (u2.setCell ⟨p, 0, none⟩ (.slice (some ⟨g, 0, none⟩) (n + 1 : Nat) cap2)) := by
  subst hbase
  have hp := h.foot p h.self
  have hh : ∀ k, (Value.slice a n cap).ownBlock = some k → F k ∧ k ≠ p := by
    intro k hk
    cases a with
    | none => simp [Value.ownBlock] at hk
    | some ad =>
      simp only [Value.ownBlock, Option.some.injEq] at hk
      subst hk
      exact h.head ad rfl
  have SA : Sans (fun k => k = p ∨ (Value.slice a n cap).ownBlock = some k) u1 (u2.setCell ⟨p, 0, none⟩ (.slice (some ⟨g, 0, none⟩) (n + 1 : Nat) cap2)) := by
    refine ((Sans.of_below (fresh u1 X)).trans (Sans.of_grown hg (F := fun k => k = p ∨ (Value.slice a n cap).ownBlock = some k) (fun k hk => .inr hk)) (fun k hk => .inl hk)).trans (Sans.of_set u2 ⟨p, 0, none⟩ _ (F := fun k => k = p ∨ (Value.slice a n cap).ownBlock = some k) (.inl rfl)) (fun k hk => .inl hk)
  have SW : Sans (fun k => k = p ∨ (Value.slice a n cap).ownBlock = some k) w (u2.setCell ⟨p, 0, none⟩ (.slice (some ⟨g, 0, none⟩) (n + 1 : Nat) cap2)) := (Sans.of_below w1).trans SA (fun k hk => .inl hk)
  have hsz : u1.heap.size + 1 ≤ u2.heap.size := by have := hg.size; simpa using this
  have hgp : g ≠ p := by
    rcases hat with e | e
    · exact (hh g e).2
    · have := w1.size; omega
  have hset : (u2.setCell ⟨p, 0, none⟩ (.slice (some ⟨g, 0, none⟩) (n + 1 : Nat) cap2)).heap.size = u2.heap.size := by simp [World.setCell]
  have hgF : F g ∨ w.heap.size ≤ g := by
    rcases hat with e | e
    · exact .inl (hh g e).1
    · have := w1.size; exact .inr (by omega)
  have hro : ∀ ad, ra = some ad → w.heap.size ≤ ad.block ∧ ad.block < u1.heap.size := by
    intro ad e
    rcases o1.shape with ⟨e2, _⟩ | ⟨g', e2, hb, hlt', _⟩
    · rw [e2] at e; cases e
    · rw [e2] at e; cases e; exact ⟨hb, hlt'⟩
  refine ⟨fun k => F k ∨ (w.heap.size ≤ k ∧ k < u2.heap.size), ⟨?_, .inl h.self, ⟨h.room1.1, h.room1.2.1, by rw [List.length_append, hn]; exact hf⟩, ?_, ?_, ?_, ?_, ?_, ?_⟩, SW.mono ?_, ?_⟩
  · rintro k (hk | hk)
    · have := h.foot k hk
      have := w1.size
      rw [hset]; omega
    · rw [hset]; exact hk.2
  · simpa using s1
  · have c1 : u2.cell? ⟨p, 1, none⟩ = some (.int .i64 room) := by
      refine hg.cell (a := ⟨p, 1, none⟩) (((fresh u1 X).cell (p := ⟨p, 1, none⟩) (Nat.lt_of_lt_of_le hp w1.size)).trans ((w1.cell (p := ⟨p, 1, none⟩) hp).trans h.c1)) (fun e => (hh p e.symm).2 rfl)
    rw [World.cell?_setCell_other]
    · exact c1
    · simp
  · rw [List.length_append, hn]
    exact World.cell?_setCell_same _ _ _ s0
  · have := hown
    refine OwnL.sans (F := fun k => k = p) (w := u2) ?_ (Sans.of_set u2 ⟨p, 0, none⟩ _ rfl) (fun ad e => by cases e; exact hgp)
    unfold OwnL
    rw [List.length_append, hn, List.map_append]
    exact hown
  · intro ad e
    cases e
    refine ⟨?_, hgp⟩
    rcases hgF with e | e
    · exact .inl e
    · exact .inr ⟨e, hlt⟩
  · intro r hr
    rcases List.mem_append.1 hr with hr | hr
    · obtain ⟨h1, h2, h3⟩ := h.rows r hr
      refine ⟨h1.sans SW ?_, h2, fun ad e => ⟨.inl (h3 ad e).1, (h3 ad e).2.1, ?_⟩⟩
      · intro ad e hH
        rcases hH with hH | hH
        · exact (h3 ad e).2.1 hH
        · cases a with
          | none => simp [Value.ownBlock] at hH
          | some ah =>
            simp only [Value.ownBlock, Option.some.injEq] at hH
            exact (h3 ad e).2.2 ah rfl hH.symm
      · intro ah ea
        cases ea
        intro eb
        have hb := h.foot _ (h3 ad e).1
        rcases hat with e2 | e2
        · cases a with
          | none => simp [Value.ownBlock] at e2
          | some ah =>
            simp only [Value.ownBlock, Option.some.injEq] at e2
            exact (h3 ad e).2.2 ah rfl (by rw [e2]; exact eb)
        · have := w1.size
          simp only at eb
          omega
    · rw [List.mem_singleton] at hr
      subst hr
      refine ⟨⟨o1.octs.sans SA ?_, ?_⟩, hl, fun ad e => ⟨.inr ⟨(hro ad e).1, by have := (hro ad e).2; omega⟩, ?_, ?_⟩⟩
      · intro ad e hH
        have hb := (hro ad e).1
        rcases hH with hH | hH
        · omega
        · have := h.foot _ (hh _ hH).1; omega
      · intro e
        rcases o1.shape with ⟨_, h1, h2⟩ | ⟨g', e2, _⟩
        · exact ⟨h1, h2⟩
        · simp only at e; rw [e2] at e; cases e
      · have hb := (hro ad e).1
        omega
      · intro ah ea
        cases ea
        have hb := (hro ad e)
        rcases hat with e2 | e2
        · have := h.foot _ (hh g e2).1
          simp only; omega
        · simp only; omega
  · rintro k (hk | hk)
    · rw [hk]; exact h.self
    · exact (hh k hk).1
  · rintro k (hk | hk)
    · exact .inl hk
    · exact .inr hk.1
set_option maxHeartbeats 1000000 in
theorem refSend_room (p room : Nat) (F : Nat → Prop) (rs : List RowV) (a : Option Addr) (cap : Nat) (b : Option Addr) (len bc : Nat) (l : List Nat) (w : World) (h : RefAt w F p room rs a cap) (hf : rs.length < room)
    (hb : Octs w b len l) (hbn : b = none → len = 0 ∧ bc = 0) (hbl : len ≤ 1000000) :
    Calls Try.prog 22 #[.pointer (some ⟨p, 0, none⟩), .slice b len bc] w fun e w' => ∃ F' r a' cap', e = .returned (.bool true) ∧ RefAt w' F' p room (rs ++ [r]) a' cap' ∧ r.l = l ∧ r.len = len ∧ Grows F w F' w' := by
  have HR : Hid (RefAt w F p room rs a cap) := h
  have HB : Hid (Octs w b len l ∧ (b = none → len = 0 ∧ bc = 0)) := ⟨hb, hbn⟩
  have hc0 := h.c0
  have hc1 := h.c1
  have hf0 := h.f0
  have hp := h.foot p h.self
  have hr := h.room1
  obtain ⟨n, hn⟩ : ∃ n, rs.length = n := ⟨_, rfl⟩
  have HN : Hid (rs.length = n) := hn
  rw [hn] at hc0 hf hr
  have hnb : n ≤ 64 := by omega
  have hrb : room ≤ 64 := hr.2.1
  have hd : ¬ (room : Int) ≤ n := by omega
  obtain ⟨i0, hi, hz0, hz1, hz2⟩ := info_parts infoL
  clear hn h hr hb hbn
  go_enter Try.func22, Try.ntmps22
  go_wp2_with fail
  go_quiet (fail)
  go_wp2_with fail
  go_region_law (first
    | (go_simp; go_at_call 27; refine (clone_any b len bc l _ ?_ HB.out.2 hbl).mono ?_; (exact HB.out.1.below (drewN_below _ _)); rintro e u1 ⟨ra, rc, rfl, o1, h1⟩; have q0 : u1.cell? ⟨p, 0, none⟩ = some (.slice a n cap) := (h1.cell (p := ⟨p, 0, none⟩) hp).trans hc0; have q1 : u1.frozen? ⟨p, 0, none⟩ = false := (h1.frozen (p := ⟨p, 0, none⟩) hp).trans hf0; have q2 : p < u1.heap.size := Nat.lt_of_lt_of_le hp h1.size; have w1 : Below w.heap.size w u1 := later (drewN_below w _) h1; have ow : ∀ o : Obj, (u1.alloc o).ownsRow 0 29 1 (.slice a n cap) n (rs.map RowV.val) := fun o => HR.out.owned HN.out (later w1 (fresh u1 o)); dsimp only)
    | (refine step_append_lies (u1.alloc (.cells #[.slice ra len rc] 29)) (by rfl) _ _ 27 (by rfl) 0 29 i0 (.slice none 0 0) 1 24 Try.underlying27 hi hz0 hz1 hz2 rfl (by decide) (.slice a n cap) n (rs.map RowV.val) (by rfl) (ow _) ⟨u1.heap.size, 0, none⟩ 1 1 [.slice ra len rc] (by rfl) rfl (cell_one_new u1 _ _) (by simp [Value.oneCell']) (by decide) (by unfold maxLen; omega) (by omega) (Nat.zero_le _) (u1.heap.size + 1) (by simp) ?_; intro g cap2 u2 hown2 hg2 hat hlt2; have hpa : some p ≠ (Value.slice a n cap).ownBlock := HR.out.not_head n cap; have s0 := hg2.cell (a := ⟨p, 0, none⟩) (v := .slice a n cap) (((fresh u1 _).cell (p := ⟨p, 0, none⟩) q2).trans q0) hpa; have s1 : u2.frozen? ⟨p, 0, none⟩ = false := HR.out.still h1 hg2 hpa q1 q2))
  all_goals
    go_wp2_with fail
    go_ret
    obtain ⟨F', hF', hG⟩ := refSend_end HR.out HN.out hf w1 o1 rfl hbl hown2 hg2 hat hlt2 s0 s1
    exact ⟨F', _, _, _, rfl, hF', rfl, rfl, hG⟩
end Go.Proofs.Ytjelfenkbngfiaa
