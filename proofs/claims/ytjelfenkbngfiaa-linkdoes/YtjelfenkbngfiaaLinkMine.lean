/-
  Calls on a link of the law's own, and the helper known of package shunterlaw04, out of what package link comes to. Conditions: that package link comes to it (LinkSpec).
-/
import Derived.Test.YtjelfenkbngfiaaLinkSpec
namespace Go.Proofs.Ytjelfenkbngfiaa
open Go.ChangeShapes Go.WideShapes Go.ChangeAt Go.RowKit
set_option linter.unusedVariables false

variable {L : World → (Nat → Prop) → Nat → Nat → List (List Nat) → Prop}
theorem mine_new (S : LinkSpec L) (room : Nat) (w0 w : World) (h : 1 ≤ room ∧ room ≤ 64) (hb : Below w0.heap.size w0 w) :
    Calls Try.prog 12 #[.int .i64 room] w fun e w' => ∃ p, e = .returned (.pointer (some ⟨p, 0, none⟩)) ∧ Mine L w0 w' p room [] :=
  (S.new_good room w h).mono fun e w' ⟨p, F, he, hL, hB, hF⟩ => ⟨p, he, F, hL, fun k hk => Nat.le_trans hb.size (hF k hk), later hb hB⟩
theorem mine_full (S : LinkSpec L) {w0 w : World} {p room : Nat} {ts : List (List Nat)} (b : Option Addr) (len bc : Nat) (l : List Nat) (h : Mine L w0 w p room ts) (hf : room ≤ ts.length) (ho : Octs w b len l) (hn : b = none → len = 0 ∧ bc = 0) (hl : len ≤ 1000000) :
    Calls Try.prog 14 #[.pointer (some ⟨p, 0, none⟩), .slice b len bc] w fun e w' => e = .returned (.bool false) ∧ Mine L w0 w' p room ts := by
  obtain ⟨F, h1, h2, h3⟩ := h
  exact (S.send_full b len bc l h1 hf ho hn hl).mono fun e w' ⟨F', he, hL, hG⟩ => ⟨he, Mine.step h3 h2 hL hG⟩
theorem mine_send (S : LinkSpec L) {w0 w : World} {p room : Nat} {ts : List (List Nat)} (b : Option Addr) (len bc : Nat) (l : List Nat) (h : Mine L w0 w p room ts) (hf : ts.length < room) (ho : Octs w b len l) (hn : b = none → len = 0 ∧ bc = 0) (hl : len ≤ 1000000) :
    Calls Try.prog 14 #[.pointer (some ⟨p, 0, none⟩), .slice b len bc] w fun e w' => e = .returned (.bool true) ∧ Mine L w0 w' p room (ts ++ [l]) := by
  obtain ⟨F, h1, h2, h3⟩ := h
  exact (S.send_room b len bc l h1 hf ho hn hl).mono fun e w' ⟨F', he, hL, hG⟩ => ⟨he, Mine.step h3 h2 hL hG⟩
theorem mine_untaken (S : LinkSpec L) {w0 w : World} {p room : Nat} {ts : List (List Nat)} (z : Int) (h : Mine L w0 w p room ts) (hb : -9223372036854775808 ≤ z ∧ z ≤ 9223372036854775807) (hz : z < 0 ∨ (ts.length : Int) ≤ z) :
    Calls Try.prog 15 #[.pointer (some ⟨p, 0, none⟩), .int .i64 z] w fun e w' => ∃ a n c, e = .returned (.tuple #[.slice a n c, .bool false]) ∧ Mine L w0 w' p room ts ∧ Octs w' a n [] := by
  obtain ⟨F, h1, h2, h3⟩ := h
  exact (S.take_none z h1 hb hz).mono fun e w' ⟨F', a, n, c, he, hL, hG, ho⟩ => ⟨a, n, c, he, Mine.step h3 h2 hL hG, ho⟩
theorem mine_take (S : LinkSpec L) {w0 w : World} {p room : Nat} {ts : List (List Nat)} (i : Nat) (h : Mine L w0 w p room ts) (hi : i < ts.length) :
    Calls Try.prog 15 #[.pointer (some ⟨p, 0, none⟩), .int .i64 i] w fun e w' => ∃ a n c, e = .returned (.tuple #[.slice a n c, .bool true]) ∧ Mine L w0 w' p room (ts.eraseIdx i) ∧ Octs w' a n (ts.getD i []) := by
  obtain ⟨F, h1, h2, h3⟩ := h
  exact (S.take_some i h1 hi).mono fun e w' ⟨F', a, n, c, he, hL, hG, ho, _⟩ => ⟨a, n, c, he, Mine.step h3 h2 hL hG, ho⟩
theorem mine_untwice (S : LinkSpec L) {w0 w : World} {p room : Nat} {ts : List (List Nat)} (z : Int) (h : Mine L w0 w p room ts) (hb : -9223372036854775808 ≤ z ∧ z ≤ 9223372036854775807) (hz : z < 0 ∨ (ts.length : Int) ≤ z ∨ room ≤ ts.length) :
    Calls Try.prog 16 #[.pointer (some ⟨p, 0, none⟩), .int .i64 z] w fun e w' => e = .returned (.bool false) ∧ Mine L w0 w' p room ts := by
  obtain ⟨F, h1, h2, h3⟩ := h
  exact (S.twice_no z h1 hb hz).mono fun e w' ⟨F', he, hL, hG⟩ => ⟨he, Mine.step h3 h2 hL hG⟩
theorem mine_twice (S : LinkSpec L) {w0 w : World} {p room : Nat} {ts : List (List Nat)} (i : Nat) (h : Mine L w0 w p room ts) (hi : i < ts.length) (hf : ts.length < room) :
    Calls Try.prog 16 #[.pointer (some ⟨p, 0, none⟩), .int .i64 i] w fun e w' => e = .returned (.bool true) ∧ Mine L w0 w' p room (ts ++ [ts.getD i []]) := by
  obtain ⟨F, h1, h2, h3⟩ := h
  exact (S.twice_yes i h1 hi hf).mono fun e w' ⟨F', he, hL, hG⟩ => ⟨he, Mine.step h3 h2 hL hG⟩
theorem mine_unbent (S : LinkSpec L) {w0 w : World} {p room : Nat} {ts : List (List Nat)} (z t : Int) (x : Nat) (h : Mine L w0 w p room ts) (hb : -9223372036854775808 ≤ z ∧ z ≤ 9223372036854775807) (ht : -9223372036854775808 ≤ t ∧ t ≤ 9223372036854775807) (hx : x < 256) (hz : z < 0 ∨ (ts.length : Int) ≤ z ∨ t < 0 ∨ x = 0 ∨ ∃ i : Nat, z = i ∧ i < ts.length ∧ ts.getD i [] = []) :
    Calls Try.prog 17 #[.pointer (some ⟨p, 0, none⟩), .int .i64 z, .int .i64 t, .int .u8 x] w fun e w' => e = .returned (.bool false) ∧ Mine L w0 w' p room ts := by
  obtain ⟨F, h1, h2, h3⟩ := h
  exact (S.bend_no z t x h1 hb ht hx hz).mono fun e w' ⟨F', he, hL, hG⟩ => ⟨he, Mine.step h3 h2 hL hG⟩
def bentRow (l : List Nat) (t x : Nat) : List Nat := l.set (t % l.length) (l.getD (t % l.length) 0 ^^^ x)
theorem mine_bend (S : LinkSpec L) {w0 w : World} {p room : Nat} {ts : List (List Nat)} (i t x : Nat) (h : Mine L w0 w p room ts) (hi : i < ts.length) (hne : ts.getD i [] ≠ []) (hx0 : x ≠ 0) (hx : x < 256) (ht : t ≤ 9223372036854775807) :
    Calls Try.prog 17 #[.pointer (some ⟨p, 0, none⟩), .int .i64 i, .int .i64 t, .int .u8 x] w fun e w' => e = .returned (.bool true) ∧ Mine L w0 w' p room (ts.set i (bentRow (ts.getD i []) t x)) := by
  obtain ⟨F, h1, h2, h3⟩ := h
  exact (S.bend_yes i t x h1 hi hne hx0 hx ht).mono fun e w' ⟨F', he, hL, hG⟩ => ⟨he, Mine.step h3 h2 hL hG⟩
theorem mine_all (S : LinkSpec L) {w0 w : World} {p room : Nat} {ts : List (List Nat)} (h : Mine L w0 w p room ts) (n : Nat) (hn : ts.length = n) :
    Calls Try.prog 13 #[.pointer (some ⟨p, 0, none⟩)] w fun e w' => ∃ a c rs, e = .returned (.slice a n c) ∧ Told w w' a n rs ∧ texts rs = ts ∧ n ≤ c ∧ c ≤ 9223372036854775807 ∧ Mine L w0 w' p room ts ∧ Below w.heap.size w w' := by
  subst hn
  obtain ⟨F, h1, h2, h3⟩ := h
  exact (S.all h1).mono fun e w' ⟨a, c, rs, he, hT, ht, hc, hc2, hL, hB⟩ => ⟨a, c, rs, he, hT, ht, hc, hc2, ⟨F, hL, h2, later h3 hB⟩, hB⟩
theorem one_lit (w : World) (c : Nat) (hc : c < 256) : Octs (w.alloc (.cells #[.int .u8 c] 5)) (some ⟨w.heap.size, 0, none⟩) 1 [c] := one_is w c c rfl hc
theorem Mine.size (S : LinkSpec L) {w0 w : World} {p room : Nat} {ts : List (List Nat)} (h : Mine L w0 w p room ts) : 1 ≤ room ∧ room ≤ 64 ∧ ts.length ≤ room := by
  obtain ⟨F, h1, _⟩ := h
  exact S.size h1
theorem Mine.below {w0 w : World} {p room : Nat} {ts : List (List Nat)} (h : Mine L w0 w p room ts) : Below w0.heap.size w0 w := by
  obtain ⟨F, _, _, h3⟩ := h
  exact h3
theorem Lines.sans {F : Nat → Prop} {w w' : World} {a : Option Addr} {len : Nat} {rs : List RowV} (h : Lines w a len rs) (k : Sans F w w') (ha : ∀ ad, a = some ad → ¬ F ad.block) (hr : ∀ r ∈ rs, ∀ ad, r.a = some ad → ¬ F ad.block) : Lines w' a len rs := by
  obtain ⟨h1, h2, h3, h4⟩ := h
  refine ⟨h1, h2, ?_, fun r hm => (h4 r hm).sans k (hr r hm)⟩
  rcases h3 with h3 | ⟨b, off, e, hlt, hc⟩
  · exact .inl h3
  · exact .inr ⟨b, off, e, Nat.lt_of_lt_of_le hlt k.size, fun j hj => (k.cell (p := ⟨b, off + j, none⟩) hlt (ha ⟨b, off, none⟩ e)).trans (hc j hj)⟩
theorem Told.sans {F : Nat → Prop} {w w' w2 : World} {a : Option Addr} {n : Nat} {rs : List RowV} (h : Told w w' a n rs) (k : Sans F w' w2) (hF : ∀ k, F k → k < w.heap.size) : Lines w2 a n rs :=
  h.lines.sans k (fun ad e hf => by have := h.head ad e; have := hF _ hf; omega) (fun r hr ad e hf => by have := (h.rows r hr ad e).1; have := hF _ hf; omega)
/-- a row with bytes, and where they are -/
theorem RowV.ok.at {w : World} {r : RowV} (h : r.ok w) (hp : 0 < r.len) : ∃ b off, r.a = some ⟨b, off, none⟩ ∧ ∀ i, i < r.len → w.cell? ⟨b, off + i, none⟩ = some (.int .u8 (r.l.getD i 0 : Nat)) := h.1.at hp
theorem all_is (S : LinkSpec L) {w : World} {F : Nat → Prop} {p room : Nat} {ts : List (List Nat)} (h : L w F p room ts) (n : Nat) (hn : ts.length = n) :
    Calls Try.prog 13 #[.pointer (some ⟨p, 0, none⟩)] w fun e w' => ∃ a c rs, e = .returned (.slice a n c) ∧ Told w w' a n rs ∧ texts rs = ts ∧ n ≤ c ∧ c ≤ 9223372036854775807 ∧ L w' F p room ts ∧ Below w.heap.size w w' := by
  subst hn; exact S.all h
set_option maxHeartbeats 1000000 in
theorem known_any (S : LinkSpec L) (w : World) : Calls Try.prog 11 #[] w fun e w' => e = .returned (.bool true) ∧ Below w.heap.size w w' := by
  go_enter Try.func11, Try.ntmps11
  go_wp2_with fail
  refine (mine_new S 3 w w (by omega) (Below.refl _ _)).mono ?_
  rintro e u1 ⟨p, rfl, m1⟩
  go_wp2_with fail
  refine (mine_send S _ 1 1 [1] (m1.on S (fresh _ _)) (by simp) (one_lit u1 1 (by omega)) (fun h => by cases h) (by omega)).mono ?_
  rintro e u2 ⟨rfl, m2⟩
  go_wp2_with fail
  refine (mine_send S _ 1 1 [2] (m2.on S (fresh _ _)) (by simp) (one_lit u2 2 (by omega)) (fun h => by cases h) (by omega)).mono ?_
  rintro e u3 ⟨rfl, m3⟩
  go_wp2_with fail
  refine (mine_bend S 0 0 4 m3 (by simp) (by simp) (by omega) (by omega) (by omega)).mono ?_
  rintro e u4 ⟨rfl, m4⟩
  go_wp2_with fail
  obtain ⟨F, hL4, hF4, hb4⟩ := m4
  refine (all_is S hL4 2 rfl).mono ?_
  rintro e u5 ⟨a5, c5, rs, rfl, t5, hx5, hc5, hc6, hL5, b5⟩
  have hL5' : L u5 F p 3 [[5], [2]] := hL5
  have hx5' : texts rs = [[5], [2]] := hx5
  clear hL5 hx5
  have hfoot := S.foot hL4
  clear hL4 m1 m2 m3
  go_wp2_with fail
  refine (S.take_some 1 hL5' (by simp)).mono ?_
  rintro e u6 ⟨F6, a6, n6, c6, rfl, hL6, hG6, o6, ho6⟩
  have hL6' : L u6 F6 p 3 [[5]] := hL6
  have o6' : Octs u6 a6 n6 [2] := o6
  have hli := t5.sans hG6.1 hfoot
  have hb6 : Below w.heap.size w u6 := later hb4 b5 |>.trans (hG6.1.below (later hb4 b5).size hF4)
  have hF6 : ∀ k, F6 k → w.heap.size ≤ k := fun k hk => (hG6.2 k hk).elim (hF4 k) (fun e => Nat.le_trans (later hb4 b5).size e)
  clear hL6 o6 ho6 hL5' t5 hfoot hG6
  obtain ⟨r0, r1, rfl⟩ : ∃ r0 r1, rs = [r0, r1] := by
    have := hli.1
    match rs, this with
    | [r0, r1], _ => exact ⟨r0, r1, rfl⟩
  have hr0 : r0.l = [5] := by simp [texts] at hx5'; exact hx5'.1
  obtain ⟨b, off, rfl, hlt, hc, hok⟩ := hli.at (j := 0) (by omega)
  simp only [List.getD_cons_zero, Nat.add_zero] at hc hok
  have hl0 : r0.len = 1 := by have := hok.1.1; rw [hr0] at this; exact this.symm
  obtain ⟨b0, off0, e0, hcc⟩ := hok.at (by omega)
  have hcc0 := hcc 0 (by omega)
  rw [hr0, Nat.add_zero] at hcc0
  rw [hl0, e0] at hc
  obtain ⟨rc, hrc⟩ : ∃ rc, r0.cap = rc := ⟨_, rfl⟩
  rw [hrc] at hc
  have hn6 : n6 = 1 := o6'.1.symm
  subst hn6
  obtain ⟨b2, off2, rfl, hc2⟩ := o6'.at (by omega)
  have hc20 := hc2 0 (by omega)
  rw [Nat.add_zero] at hc20
  simp only [List.getD_cons_zero] at hcc0 hc20
  clear hcc hc2 hrc hok hli hx5' hr0 hl0 e0 o6'
  go_wp2_with fail
  refine (S.new_bad 0 _ (by omega) (by omega)).mono ?_
  rintro e u7 ⟨rfl, b7⟩
  clear hc hcc0 hc20
  go_wp2_with fail
  refine (S.twice_no 1 (S.below hL6' b7) (by omega) (.inr (.inl (by simp)))).mono ?_
  rintro e u8 ⟨F8, rfl, hL8, hG8⟩
  go_wp2_with fail
  go_ret
  exact ⟨rfl, (later hb6 b7).trans (hG8.1.below (later hb6 b7).size hF6)⟩
theorem len_le_bulk {os : List OpV} {k : Nat} (h : k < os.length) : (os.getD k zop).len ≤ bulk os := by
  unfold bulk
  have hm : (os.getD k zop).len ∈ os.map (·.len) := by
    refine List.mem_map.2 ⟨os.getD k zop, ?_, rfl⟩
    rw [List.getD_eq_getElem?_getD, List.getElem?_eq_getElem h]
    exact List.getElem_mem _
  have g : ∀ (l : List Nat) (x : Nat), x ∈ l → x ≤ l.sum := by
    intro l
    induction l with
    | nil => intro x hx; cases hx
    | cons y r ih =>
      intro x hx
      rw [List.sum_cons]
      rcases List.mem_cons.1 hx with rfl | hx
      · omega
      · have := ih x hx; omega
  exact g _ _ hm
/-- what is on its way behind the first k calls of Send, where there is so much room -/
def sent (os : List OpV) (k room : Nat) : List (List Nat) := (os.take (min k room)).map (·.l)
theorem sent_length {os : List OpV} {k room : Nat} (h : k ≤ os.length) : (sent os k room).length = min k room := by
  unfold sent
  rw [List.length_map, List.length_take]
  omega
theorem sent_succ {os : List OpV} {k room : Nat} (h : k < os.length) : sent os (k + 1) room = if k < room then sent os k room ++ [(os.getD k zop).l] else sent os k room := by
  unfold sent
  by_cases hk : k < room
  · rw [if_pos hk, show min (k + 1) room = k + 1 by omega, show min k room = k by omega, List.take_succ_eq_append_getElem h, List.map_append]
    congr 1
    simp [List.getD_eq_getElem?_getD, h]
  · rw [if_neg hk, show min (k + 1) room = min k room by omega]
end Go.Proofs.Ytjelfenkbngfiaa
