/-
  The document's own Link (package shunterref04): what Bend comes to. Conditions: none but that the link is one.
-/
import Derived.Test.YtjelfenkbngfiaaRefLink3
namespace Go.Proofs.Ytjelfenkbngfiaa
open Go.ChangeShapes Go.WideShapes Go.ChangeAt Go.RowKit
set_option linter.unusedVariables false

theorem mem_set_rows {rs : List RowV} {i : Nat} {r x : RowV} (h : x ∈ rs.set i r) : x ∈ rs ∨ x = r := List.mem_or_eq_of_mem_set h
theorem refBend_end {w u1 : World} {F : Nat → Prop} {p room n i g g1 k rl rc x C base cap : Nat} {rs : List RowV} {l : List Nat} (h : RefAt w F p room rs (some ⟨g, 0, none⟩) cap) (hn : rs.length = n) (hi : i < n) (b1 : Below w.heap.size w u1)
    (o1 : Own u1 base (some ⟨g1, 0, none⟩) rl rc l) (hbase : base = w.heap.size) (hl : rl ≤ 1000000) (hC : C < 256) (hx : x < 256) :
    ∃ F', RefAt ((u1.setCell ⟨g1, k, none⟩ (.int .u8 (bits .xor .u8 (C : Int) (x : Int)))).setCell ⟨g, i, none⟩ (.slice (some ⟨g1, 0, none⟩) rl rc)) F' p room (rs.set i ⟨some ⟨g1, 0, none⟩, rl, rc, l.set k (C ^^^ x)⟩) (some ⟨g, 0, none⟩) cap ∧
      Grows F w F' ((u1.setCell ⟨g1, k, none⟩ (.int .u8 (bits .xor .u8 (C : Int) (x : Int)))).setCell ⟨g, i, none⟩ (.slice (some ⟨g1, 0, none⟩) rl rc)) := by
  subst hbase
  have hp := h.foot p h.self
  have hgF := h.head _ rfl
  simp only at hgF
  have hg := h.foot g hgF.1
  have hs := b1.size
  obtain ⟨hg1a, hg1b⟩ : w.heap.size ≤ g1 ∧ g1 < u1.heap.size := by
    rcases o1.shape with ⟨e, _⟩ | ⟨g', e, hb, hlt, _⟩
    · cases e
    · cases e; exact ⟨hb, hlt⟩
  have o2 := o1.bent k C x hC hx
  obtain ⟨u2, hu2⟩ : ∃ u2, u1.setCell ⟨g1, k, none⟩ (.int .u8 (bits .xor .u8 (C : Int) (x : Int))) = u2 := ⟨_, rfl⟩
  have S2 : Sans (fun j => j = g) w u2 := by
    rw [← hu2]
    exact (Sans.of_below b1).trans (Sans.of_set u1 ⟨g1, k, none⟩ _ (F := fun j => j = g1) rfl) (fun j hj => .inr (by rw [hj]; exact hg1a))
  have hs2 : u2.heap.size = u1.heap.size := by rw [← hu2]; simp [World.setCell]
  rw [hu2] at o2 ⊢
  have SW : Sans (fun j => j = g) w (u2.setCell ⟨g, i, none⟩ (.slice (some ⟨g1, 0, none⟩) rl rc)) := S2.trans (Sans.of_set u2 ⟨g, i, none⟩ _ (F := fun j => j = g) rfl) (fun j hj => .inl hj)
  have hset : (u2.setCell ⟨g, i, none⟩ (.slice (some ⟨g1, 0, none⟩) rl rc)).heap.size = u1.heap.size := by rw [← hs2]; simp [World.setCell]
  have hw2 : OwnL u2 (some ⟨g, 0, none⟩) cap rs := by
    rw [← hu2]
    exact (h.own.sans (F := fun _ => False) (Sans.of_below b1) (fun _ _ e => e)).sans (F := fun j => j = g1) (Sans.of_set u1 ⟨g1, k, none⟩ _ rfl) (fun ad e hh => by cases e; simp only at hh; omega)
  refine ⟨fun j => F j ∨ (w.heap.size ≤ j ∧ j < u1.heap.size), ⟨?_, .inl h.self, ⟨h.room1.1, h.room1.2.1, by rw [List.length_set]; exact h.room1.2.2⟩, ?_, ?_, ?_, ?_, ?_, ?_⟩, SW.mono ?_, ?_⟩
  · rintro j (hj | hj)
    · have := h.foot j hj
      rw [hset]; omega
    · rw [hset]; exact hj.2
  · exact (SW.frozen (p := ⟨p, 0, none⟩) hp (fun e => hgF.2 e.symm)).trans h.f0
  · exact (SW.cell (p := ⟨p, 1, none⟩) hp (fun e => hgF.2 e.symm)).trans h.c1
  · rw [List.length_set]
    exact (SW.cell (p := ⟨p, 0, none⟩) hp (fun e => hgF.2 e.symm)).trans h.c0
  · have := (hw2.stored i (.slice (some ⟨g1, 0, none⟩) rl rc)).1
    unfold OwnL
    rw [List.length_set, List.map_set]
    exact this
  · intro ad e
    cases e
    exact ⟨.inl hgF.1, hgF.2⟩
  · intro r hr
    rcases mem_set_rows hr with hr | rfl
    · obtain ⟨h1, h2, h3⟩ := h.rows r hr
      refine ⟨h1.sans SW (fun ad e => (h3 ad e).2.2 _ rfl), h2, fun ad e => ⟨.inl (h3 ad e).1, (h3 ad e).2.1, (h3 ad e).2.2⟩⟩
    · refine ⟨⟨o2.octs.sans (F := fun j => j = g) (Sans.of_set u2 ⟨g, i, none⟩ _ rfl) (fun ad e hh => by cases e; simp only at hh; omega), (fun e => by cases e)⟩, hl, fun ad e => ?_⟩
      cases e
      refine ⟨.inr ⟨hg1a, hg1b⟩, by simp only; omega, fun ah ea => by cases ea; simp only; omega⟩
  · intro j hj
    rw [hj]; exact hgF.1
  · rintro j (hj | hj)
    · exact .inl hj
    · exact .inr hj.1
set_option maxHeartbeats 1000000 in
theorem refBend_some (p room : Nat) (F : Nat → Prop) (rs : List RowV) (a : Option Addr) (cap i t x : Nat) (w : World) (h : RefAt w F p room rs a cap) (hi : i < rs.length) (hl0 : 0 < (rs.getD i zrow).len) (hx0 : x ≠ 0) (hx : x < 256) (ht : t ≤ 9223372036854775807) :
    Calls Try.prog 21 #[.pointer (some ⟨p, 0, none⟩), .int .i64 i, .int .i64 t, .int .u8 x] w fun e w' => ∃ F' r a' cap', e = .returned (.bool true) ∧ RefAt w' F' p room (rs.set i r) a' cap' ∧ r.len = (rs.getD i zrow).len ∧
      r.l = (rs.getD i zrow).l.set (t % (rs.getD i zrow).len) ((rs.getD i zrow).l.getD (t % (rs.getD i zrow).len) 0 ^^^ x) ∧ Grows F w F' w' := by
  have HR : Hid (RefAt w F p room rs a cap) := h
  have hc0 := h.c0
  have hp := h.foot p h.self
  obtain ⟨g, rfl, hg, hcap⟩ := h.some (by omega)
  have hmx := h.own.maxcap
  have hci := h.own.at hi
  have hfi := h.own.frozen i
  obtain ⟨hro, hrl, _⟩ := h.rows _ (getD_mem_rows hi)
  obtain ⟨r, hr⟩ : ∃ r, rs.getD i zrow = r := ⟨_, rfl⟩
  rw [hr] at hci hro hrl hl0 ⊢
  obtain ⟨n, hn⟩ : ∃ n, rs.length = n := ⟨_, rfl⟩
  have HN : Hid (rs.length = n) := hn
  rw [hn] at hc0 hi hcap
  have hm := h.room1
  rw [hn] at hm
  obtain ⟨ra, rl, rc, rt⟩ := r
  have HO : Hid (RowV.ok w ⟨ra, rl, rc, rt⟩) := hro
  clear hn h hr hro
  simp only at hci hrl hl0 ⊢
  have hi2 : (i : Int) < n := by omega
  have hi3 : ¬ (n : Int) ≤ i := by omega
  have hz1 : ((rl : Int) == 0) = false := by simp; omega
  have hx1 : ((x : Int) == 0) = false := by simp; omega
  obtain ⟨k, hk⟩ : ∃ k, t % rl = k := ⟨_, rfl⟩
  have hkl : k < rl := by rw [← hk]; exact Nat.mod_lt _ hl0
  have hk2 : (t : Int) % (rl : Int) = (k : Int) := by rw [← hk]; rfl
  rw [hk]
  clear hk
  go_enter Try.func21, Try.ntmps21
  go_wp2_with fail
  refine (clone_any ra rl rc rt _ HO.out.1 HO.out.2 hrl).mono ?_
  rintro e u1 ⟨a1, c1, rfl, o1, b1⟩
  obtain ⟨g1, rfl, hg1⟩ : ∃ g1, a1 = some ⟨g1, 0, none⟩ ∧ w.heap.size ≤ g1 := by
    rcases o1.shape with ⟨_, e, _⟩ | ⟨g', e, hb, _⟩
    · omega
    · exact ⟨g', e, hb⟩
  have hcc := o1.cell k hkl
  have hff := o1.frozen k
  obtain ⟨C, hC⟩ : ∃ C, rt.getD k 0 = C := ⟨_, rfl⟩
  have hC8 : C < 256 := by rw [← hC]; exact Oct_getD HO.out.1.2.2.1 k
  rw [hC] at hcc
  have HC : Hid (rt.getD k 0 = C) := hC
  clear hC
  have q0 : u1.cell? ⟨p, 0, none⟩ = some (.slice (some ⟨g, 0, none⟩) n cap) := (b1.cell (p := ⟨p, 0, none⟩) hp).trans hc0
  have qi : u1.cell? ⟨g, i, none⟩ = some (.slice ra rl rc) := (b1.cell (p := ⟨g, i, none⟩) hg).trans hci
  have fi : u1.frozen? ⟨g, i, none⟩ = false := (b1.frozen (p := ⟨g, i, none⟩) hg).trans hfi
  have np : ¬ g1 = p := by omega
  have ng : ¬ g1 = g := by omega
  have np2 : ¬ p = g1 := by omega
  have ng2 : ¬ g = g1 := by omega
  go_wp2_with fail
  go_ret
  obtain ⟨F', hF, hG⟩ := refBend_end (k := k) HR.out HN.out hi b1 o1 rfl hrl hC8 hx
  exact ⟨F', _, _, _, rfl, hF, rfl, by rw [HC.out], hG⟩
set_option maxHeartbeats 400000 in
theorem refBend_none (p room : Nat) (F : Nat → Prop) (rs : List RowV) (a : Option Addr) (cap x : Nat) (z t : Int) (w : World) (h : RefAt w F p room rs a cap) (hx : x < 256)
    (hz : z < 0 ∨ (rs.length : Int) ≤ z ∨ t < 0 ∨ x = 0 ∨ ∃ i : Nat, z = i ∧ i < rs.length ∧ (rs.getD i zrow).len = 0) :
    Calls Try.prog 21 #[.pointer (some ⟨p, 0, none⟩), .int .i64 z, .int .i64 t, .int .u8 x] w fun e w' => e = .returned (.bool false) ∧ w' = w := by
  have HR : Hid (RefAt w F p room rs a cap) := h
  have hc0 := h.c0
  have hr := h.room1
  obtain ⟨n, hn⟩ : ∃ n, n = rs.length := ⟨_, rfl⟩
  have HN : Hid (n = rs.length) := hn
  rw [← hn] at hc0 hz hr
  have hnb : n ≤ 64 := by omega
  clear hn h hr
  by_cases z0 : z < 0
  · go_enter Try.func21, Try.ntmps21
    go_wp2_with fail
    go_ret
    exact ⟨rfl, rfl⟩
  by_cases z1 : (n : Int) ≤ z
  · go_enter Try.func21, Try.ntmps21
    go_wp2_with fail
    go_ret
    exact ⟨rfl, rfl⟩
  by_cases t0 : t < 0
  · go_enter Try.func21, Try.ntmps21
    go_wp2_with fail
    go_ret
    exact ⟨rfl, rfl⟩
  by_cases x0 : x = 0
  · subst x0
    go_enter Try.func21, Try.ntmps21
    go_wp2_with fail
    go_ret
    exact ⟨rfl, rfl⟩
  obtain ⟨i, rfl, hi, hlen⟩ : ∃ i : Nat, z = i ∧ i < n ∧ (rs.getD i zrow).len = 0 := by
    rcases hz with h | h | h | h | h
    · exact absurd h z0
    · exact absurd h z1
    · exact absurd h t0
    · exact absurd h x0
    · exact h
  clear hz
  have x1 : ((x : Int) == 0) = false := by simp; omega
  obtain ⟨g, rfl, _⟩ := HR.out.some (by rw [← HN.out]; omega)
  have hci := HR.out.own.at (j := i) (by rw [← HN.out]; exact hi)
  rw [hlen] at hci
  obtain ⟨ra, hra⟩ : ∃ ra, (rs.getD i zrow).a = ra := ⟨_, rfl⟩
  obtain ⟨rc, hrc⟩ : ∃ rc, (rs.getD i zrow).cap = rc := ⟨_, rfl⟩
  rw [hra, hrc] at hci
  clear hra hrc hlen
  go_enter Try.func21, Try.ntmps21
  go_wp2_with fail
  go_ret
  exact ⟨rfl, rfl⟩
end Go.Proofs.Ytjelfenkbngfiaa
