/-
  Package link, as it landed: what at, Twice and Bend come to. Conditions: none but that the link is one.
-/
import Derived.Test.YtjelfenkbngfiaaLinkA
namespace Go.Proofs.Ytjelfenkbngfiaa
open Go.ChangeShapes Go.WideShapes Go.ChangeAt Go.RowKit
set_option linter.unusedVariables false

theorem LinkAt.some {w : World} {F : Nat → Prop} {p room : Nat} {rs : List RowV} {a : Option Addr} {cap : Nat} (h : LinkAt w F p room rs a cap) (hn : 0 < rs.length) : ∃ g, a = some ⟨g, 0, none⟩ ∧ g < w.heap.size ∧ rs.length ≤ cap := by
  rcases h.own.shape with ⟨_, e, _⟩ | ⟨g, e, h1, h2⟩
  · rw [e] at hn; cases hn
  · exact ⟨g, e, h1, h2⟩
set_option maxHeartbeats 400000 in
theorem linkAt_none (p room : Nat) (F : Nat → Prop) (rs : List RowV) (a : Option Addr) (cap : Nat) (z : Int) (w : World) (h : LinkAt w F p room rs a cap) (hz : z < 0 ∨ (rs.length : Int) ≤ z) :
    Calls Try.prog 25 #[.pointer (some ⟨p, 0, none⟩), .int .i64 z] w fun e w' => e = .returned (.tuple #[.slice none 0 0, .bool false]) ∧ w' = w := by
  have hc1 := h.c1
  obtain ⟨n, hn⟩ : ∃ n, n = rs.length := ⟨_, rfl⟩
  rw [← hn] at hc1 hz
  have hr := h.room1
  have hnb : n ≤ 64 := by omega
  clear hn h hr
  rcases hz with hz | hz
  · go_enter Try.func25, Try.ntmps25
    go_wp2_with fail
    go_ret2
    exact ⟨rfl, rfl⟩
  · have h0 : 0 ≤ z := by omega
    go_enter Try.func25, Try.ntmps25
    go_wp2_with fail
    go_ret2
    exact ⟨rfl, rfl⟩
set_option maxHeartbeats 400000 in
theorem linkAt_some (p room : Nat) (F : Nat → Prop) (rs : List RowV) (a : Option Addr) (cap i : Nat) (w : World) (h : LinkAt w F p room rs a cap) (hi : i < rs.length) :
    Calls Try.prog 25 #[.pointer (some ⟨p, 0, none⟩), .int .i64 i] w fun e w' => e = .returned (.tuple #[.slice (rs.getD i zrow).a (rs.getD i zrow).len (rs.getD i zrow).cap, .bool true]) ∧ w' = w := by
  have hc1 := h.c1
  obtain ⟨g, rfl, _⟩ := h.some (by omega)
  have hci := h.own.at hi
  obtain ⟨r, hr⟩ : ∃ r, rs.getD i zrow = r := ⟨_, rfl⟩
  rw [hr] at hci ⊢
  obtain ⟨n, hn⟩ : ∃ n, rs.length = n := ⟨_, rfl⟩
  rw [hn] at hc1 hi
  have hm := h.room1
  rw [hn] at hm
  clear hn h hr
  obtain ⟨ra, rl, rc, rt⟩ := r
  simp only at hci ⊢
  have hi2 : (i : Int) < n := by omega
  have hi3 : ¬ (n : Int) ≤ i := by omega
  go_enter Try.func25, Try.ntmps25
  go_wp2_with fail
  go_ret2
  exact ⟨rfl, rfl⟩
set_option maxHeartbeats 400000 in
theorem linkTwice_none (p room : Nat) (F : Nat → Prop) (rs : List RowV) (a : Option Addr) (cap : Nat) (z : Int) (w : World) (h : LinkAt w F p room rs a cap) (hz : z < 0 ∨ (rs.length : Int) ≤ z) :
    Calls Try.prog 16 #[.pointer (some ⟨p, 0, none⟩), .int .i64 z] w fun e w' => e = .returned (.bool false) ∧ w' = w := by
  have HR : Hid (LinkAt w F p room rs a cap ∧ (z < 0 ∨ (rs.length : Int) ≤ z)) := ⟨h, hz⟩
  clear h hz
  go_enter Try.func16, Try.ntmps16
  go_wp2_with fail
  refine (linkAt_none p room F rs a cap z _ HR.out.1 HR.out.2).mono ?_
  rintro e w1 ⟨rfl, rfl⟩
  go_wp2_with fail
  go_ret
  exact ⟨rfl, rfl⟩
set_option maxHeartbeats 400000 in
theorem linkTwice_full (p room : Nat) (F : Nat → Prop) (rs : List RowV) (a : Option Addr) (cap i : Nat) (w : World) (h : LinkAt w F p room rs a cap) (hi : i < rs.length) (hf : room ≤ rs.length) :
    Calls Try.prog 16 #[.pointer (some ⟨p, 0, none⟩), .int .i64 i] w fun e w' => e = .returned (.bool false) ∧ ∃ n, w' = w.drewN n := by
  have HR : Hid (LinkAt w F p room rs a cap ∧ i < rs.length ∧ room ≤ rs.length) := ⟨h, hi, hf⟩
  clear h hi hf
  go_enter Try.func16, Try.ntmps16
  go_wp2_with fail
  refine (linkAt_some p room F rs a cap i _ HR.out.1 HR.out.2.1).mono ?_
  rintro e w1 ⟨rfl, rfl⟩
  obtain ⟨⟨ra, rl, rc, rt⟩, hr⟩ : ∃ r, rs.getD i zrow = r := ⟨_, rfl⟩
  rw [hr]
  dsimp only
  clear hr
  go_wp2_with fail
  refine (linkSend_full p room F rs a cap ra rl rc _ HR.out.1 HR.out.2.2).mono ?_
  rintro e w2 ⟨rfl, m, rfl⟩
  go_wp2_with fail
  go_ret
  exact ⟨rfl, m, rfl⟩
set_option maxHeartbeats 400000 in
theorem linkTwice_room (p room : Nat) (F : Nat → Prop) (rs : List RowV) (a : Option Addr) (cap i : Nat) (w : World) (h : LinkAt w F p room rs a cap) (hi : i < rs.length) (hf : rs.length < room) :
    Calls Try.prog 16 #[.pointer (some ⟨p, 0, none⟩), .int .i64 i] w fun e w' => ∃ F' r a' cap', e = .returned (.bool true) ∧ LinkAt w' F' p room (rs ++ [r]) a' cap' ∧ r.l = (rs.getD i zrow).l ∧ r.len = (rs.getD i zrow).len ∧ Grows F w F' w' := by
  have HR : Hid (LinkAt w F p room rs a cap ∧ i < rs.length ∧ rs.length < room) := ⟨h, hi, hf⟩
  have HO : Hid (Own w 0 (rs.getD i zrow).a (rs.getD i zrow).len (rs.getD i zrow).cap (rs.getD i zrow).l ∧ (rs.getD i zrow).len ≤ 1000000) := ⟨(h.rows _ (getD_mem_rows hi)).1, (h.rows _ (getD_mem_rows hi)).2.1⟩
  clear h hi hf
  go_enter Try.func16, Try.ntmps16
  go_wp2_with fail
  refine (linkAt_some p room F rs a cap i _ HR.out.1 HR.out.2.1).mono ?_
  rintro e w1 ⟨rfl, rfl⟩
  obtain ⟨r, hr⟩ : ∃ r, rs.getD i zrow = r := ⟨_, rfl⟩
  have HRr : Hid (rs.getD i zrow = r) := hr
  rw [hr] at HO ⊢
  obtain ⟨ra, rl, rc, rt⟩ := r
  dsimp only at HO ⊢
  clear hr
  go_wp2_with fail
  refine (linkSend_room p room F rs a cap ra rl rc rt _ HR.out.1 HR.out.2.2 HO.out.1.octs HO.out.1.nilled HO.out.2).mono ?_
  rintro e w2 ⟨F', r', a', c', rfl, h1, h2, h3, h4⟩
  go_wp2_with fail
  go_ret
  exact ⟨F', r', a', c', rfl, h1, by rw [HRr.out]; exact h2, by rw [HRr.out]; exact h3, h4⟩
theorem getD_set_rows {rs : List RowV} {i : Nat} {r : RowV} (h : i < rs.length) (hr : r.a = (rs.getD i zrow).a) : (rs.set i r).map RowV.a = rs.map RowV.a := by
  rw [List.map_set]
  apply List.ext_getElem?
  intro j
  rw [List.getElem?_set]
  split
  · rename_i e
    subst e
    rw [if_pos (by simpa using h), hr, List.getElem?_map, List.getElem?_eq_getElem h]
    simp [List.getD_eq_getElem?_getD, h]
  · rfl
theorem vals_set_same {rs : List RowV} {i : Nat} {r : RowV} (h : i < rs.length) (hr : r.val = (rs.getD i zrow).val) : (rs.set i r).map RowV.val = rs.map RowV.val := by
  rw [List.map_set]
  apply List.ext_getElem?
  intro j
  rw [List.getElem?_set]
  split
  · rename_i e
    subst e
    rw [if_pos (by simpa using h), hr, List.getElem?_map, List.getElem?_eq_getElem h]
    simp [List.getD_eq_getElem?_getD, h]
  · rfl
/-- two rows at two places -/
theorem pair_apart {xs : List (Option Addr)} (h : xs.Pairwise (fun x y => ∀ ax ay, x = some ax → y = some ay → ax.block ≠ ay.block)) {i j : Nat} {ai aj : Addr} (hij : i ≠ j) (hi : xs[i]? = some (some ai)) (hj : xs[j]? = some (some aj)) : ai.block ≠ aj.block := by
  obtain ⟨li, ei⟩ := List.getElem?_eq_some_iff.1 hi
  obtain ⟨lj, ej⟩ := List.getElem?_eq_some_iff.1 hj
  rw [List.pairwise_iff_getElem] at h
  rcases Nat.lt_or_ge i j with hlt | hge
  · exact h i j li lj hlt ai aj ei ej
  · exact fun e => h j i lj li (by omega) aj ai ej ei e.symm
theorem linkBend_end {w : World} {F : Nat → Prop} {p room i k rl rc x C cap g1 : Nat} {a : Option Addr} {rs : List RowV} {l : List Nat} (h : LinkAt w F p room rs a cap) (hi : i < rs.length) (hr : rs.getD i zrow = ⟨some ⟨g1, 0, none⟩, rl, rc, l⟩) (hC : C < 256) (hx : x < 256) :
    LinkAt (w.setCell ⟨g1, k, none⟩ (.int .u8 (bits .xor .u8 (C : Int) (x : Int)))) F p room (rs.set i ⟨some ⟨g1, 0, none⟩, rl, rc, l.set k (C ^^^ x)⟩) a cap ∧
      Grows F w F (w.setCell ⟨g1, k, none⟩ (.int .u8 (bits .xor .u8 (C : Int) (x : Int)))) := by
  have hm := h.rows _ (getD_mem_rows hi)
  rw [hr] at hm
  obtain ⟨o1, hl1, ha⟩ := hm
  obtain ⟨haF, hap, hah⟩ := ha _ rfl
  simp only at haF hap hah o1 hl1
  have hp := h.foot p h.self
  have hg1 := h.foot g1 haF
  have o2 := o1.bent k C x hC hx
  have SW : Sans (fun j => j = g1) w (w.setCell ⟨g1, k, none⟩ (.int .u8 (bits .xor .u8 (C : Int) (x : Int)))) := Sans.of_set w ⟨g1, k, none⟩ _ rfl
  have hset : (w.setCell ⟨g1, k, none⟩ (.int .u8 (bits .xor .u8 (C : Int) (x : Int)))).heap.size = w.heap.size := by simp [World.setCell]
  refine ⟨⟨fun j hj => by rw [hset]; exact h.foot j hj, h.self, ⟨h.room1.1, h.room1.2.1, by rw [List.length_set]; exact h.room1.2.2⟩, ?_, ?_, ?_, ?_, h.head, ?_, ?_⟩, SW.mono (fun j hj => by rw [hj]; exact haF), fun j hj => .inl hj⟩
  · exact (SW.frozen (p := ⟨p, 1, none⟩) hp (fun e => hap e.symm)).trans h.f1
  · exact (SW.cell (p := ⟨p, 0, none⟩) hp (fun e => hap e.symm)).trans h.c0
  · rw [List.length_set]
    exact (SW.cell (p := ⟨p, 1, none⟩) hp (fun e => hap e.symm)).trans h.c1
  · have := h.own.sans SW (fun ad e hh => hah ad e hh.symm)
    unfold OwnL at this ⊢
    rw [List.length_set, vals_set_same hi (by rw [hr]; rfl)]
    exact this
  · intro r hrm
    obtain ⟨j, hj, e⟩ := List.mem_iff_getElem.1 hrm
    rw [List.length_set] at hj
    rw [List.getElem_set] at e
    split at e
    · subst e
      exact ⟨o2, hl1, fun ad e => by cases e; exact ⟨haF, hap, hah⟩⟩
    · rename_i hne
      have hmem : r ∈ rs := by rw [← e]; exact List.getElem_mem _
      obtain ⟨h1, h2, h3⟩ := h.rows r hmem
      refine ⟨h1.sans SW (fun ad ea => ?_), h2, h3⟩
      refine pair_apart h.apart (i := j) (j := i) (aj := ⟨g1, 0, none⟩) (fun e => hne e.symm) ?_ ?_
      · rw [List.getElem?_map, List.getElem?_eq_getElem hj, e]
        simp [ea]
      · rw [List.getElem?_map, List.getElem?_eq_getElem hi]
        have : rs[i] = ⟨some ⟨g1, 0, none⟩, rl, rc, l⟩ := by rw [← hr]; simp [List.getD_eq_getElem?_getD, hi]
        rw [this]
        rfl
  · rw [getD_set_rows hi (by rw [hr])]
    exact h.apart
set_option maxHeartbeats 1000000 in
theorem linkBend_some (p room : Nat) (F : Nat → Prop) (rs : List RowV) (a : Option Addr) (cap i t x : Nat) (w : World) (h : LinkAt w F p room rs a cap) (hi : i < rs.length) (hl0 : 0 < (rs.getD i zrow).len) (hx0 : x ≠ 0) (hx : x < 256) (ht : t ≤ 9223372036854775807) :
    Calls Try.prog 17 #[.pointer (some ⟨p, 0, none⟩), .int .i64 i, .int .i64 t, .int .u8 x] w fun e w' => ∃ F' r a' cap', e = .returned (.bool true) ∧ LinkAt w' F' p room (rs.set i r) a' cap' ∧ r.len = (rs.getD i zrow).len ∧
      r.l = (rs.getD i zrow).l.set (t % (rs.getD i zrow).len) ((rs.getD i zrow).l.getD (t % (rs.getD i zrow).len) 0 ^^^ x) ∧ Grows F w F' w' := by
  have HR : Hid (LinkAt w F p room rs a cap ∧ i < rs.length) := ⟨h, hi⟩
  obtain ⟨hro, hrl, _⟩ := h.rows _ (getD_mem_rows hi)
  obtain ⟨r, hr⟩ : ∃ r, rs.getD i zrow = r := ⟨_, rfl⟩
  have HRr : Hid (rs.getD i zrow = r) := hr
  rw [hr] at hro hrl hl0 ⊢
  obtain ⟨ra, rl, rc, rt⟩ := r
  obtain ⟨g1, e1⟩ : ∃ g1, ra = some ⟨g1, 0, none⟩ := by
    rcases hro.shape with ⟨_, e, _⟩ | ⟨g', e, _⟩
    · simp only at hl0 e; omega
    · exact ⟨g', e⟩
  subst e1
  simp only at hro hrl hl0 ⊢
  have hx1 : ((x : Int) == 0) = false := by simp; omega
  have hz1 : ((rl : Int) == 0) = false := by simp; omega
  obtain ⟨k, hk⟩ : ∃ k, t % rl = k := ⟨_, rfl⟩
  have hkl : k < rl := by rw [← hk]; exact Nat.mod_lt _ hl0
  have hk2 : (t : Int) % (rl : Int) = (k : Int) := by rw [← hk]; rfl
  rw [hk]
  have hcc := hro.cell k hkl
  have hff := hro.frozen k
  obtain ⟨C, hC⟩ : ∃ C, rt.getD k 0 = C := ⟨_, rfl⟩
  have hC8 : C < 256 := by rw [← hC]; exact Oct_getD hro.octs.2.2.1 k
  rw [hC] at hcc
  have HC : Hid (rt.getD k 0 = C) := hC
  clear hC hk hro h hi hr
  go_enter Try.func17, Try.ntmps17
  go_wp2_with fail
  refine (linkAt_some p room F rs a cap i _ HR.out.1 HR.out.2).mono ?_
  rintro e w1 ⟨rfl, rfl⟩
  rw [HRr.out]
  dsimp only
  go_wp2_with fail
  go_ret
  obtain ⟨hF, hG⟩ := linkBend_end (k := k) HR.out.1 HR.out.2 HRr.out hC8 hx
  exact ⟨F, _, _, _, rfl, hF, rfl, by rw [HC.out], hG⟩
set_option maxHeartbeats 400000 in
theorem linkBend_none (p room : Nat) (F : Nat → Prop) (rs : List RowV) (a : Option Addr) (cap x : Nat) (z t : Int) (w : World) (h : LinkAt w F p room rs a cap) (hx : x < 256)
    (hz : z < 0 ∨ (rs.length : Int) ≤ z ∨ t < 0 ∨ x = 0 ∨ ∃ i : Nat, z = i ∧ i < rs.length ∧ (rs.getD i zrow).len = 0) :
    Calls Try.prog 17 #[.pointer (some ⟨p, 0, none⟩), .int .i64 z, .int .i64 t, .int .u8 x] w fun e w' => e = .returned (.bool false) ∧ w' = w := by
  have HR : Hid (LinkAt w F p room rs a cap) := h
  by_cases zz : z < 0 ∨ (rs.length : Int) ≤ z
  · have HZ : Hid (z < 0 ∨ (rs.length : Int) ≤ z) := zz
    clear zz hz h
    go_enter Try.func17, Try.ntmps17
    go_wp2_with fail
    refine (linkAt_none p room F rs a cap z _ HR.out HZ.out).mono ?_
    rintro e w1 ⟨rfl, rfl⟩
    go_wp2_with fail
    go_ret
    exact ⟨rfl, rfl⟩
  obtain ⟨i, rfl⟩ : ∃ i : Nat, z = i := ⟨z.toNat, by omega⟩
  have hi : i < rs.length := by omega
  have HI : Hid (i < rs.length) := hi
  have hlb := (h.rows _ (getD_mem_rows hi)).2.1
  obtain ⟨r, hr⟩ : ∃ r, rs.getD i zrow = r := ⟨_, rfl⟩
  have HRr : Hid (rs.getD i zrow = r) := hr
  have hz2 : t < 0 ∨ x = 0 ∨ r.len = 0 := by
    rcases hz with h | h | h | h | ⟨j, e, _, h⟩
    · omega
    · omega
    · exact .inl h
    · exact .inr (.inl h)
    · have : i = j := by omega
      subst this
      rw [hr] at h
      exact .inr (.inr h)
  rw [hr] at hlb
  obtain ⟨ra, rl, rc, rt⟩ := r
  simp only at hz2 hlb
  clear zz hz h hi hr
  have hcases : rl = 0 ∨ (rl ≠ 0 ∧ t < 0) ∨ (rl ≠ 0 ∧ 0 ≤ t ∧ x = 0) := by omega
  clear hz2
  rcases hcases with rfl | ⟨h0, ht⟩ | ⟨h0, ht, rfl⟩
  · go_enter Try.func17, Try.ntmps17
    go_wp2_with fail
    refine (linkAt_some p room F rs a cap i _ HR.out HI.out).mono ?_
    rintro e w1 ⟨rfl, rfl⟩
    rw [HRr.out]
    dsimp only
    go_wp2_with fail
    go_ret
    exact ⟨rfl, rfl⟩
  · have hz1 : ((rl : Int) == 0) = false := by simp; omega
    go_enter Try.func17, Try.ntmps17
    go_wp2_with fail
    refine (linkAt_some p room F rs a cap i _ HR.out HI.out).mono ?_
    rintro e w1 ⟨rfl, rfl⟩
    rw [HRr.out]
    dsimp only
    go_wp2_with fail
    go_ret
    exact ⟨rfl, rfl⟩
  · have hz1 : ((rl : Int) == 0) = false := by simp; omega
    go_enter Try.func17, Try.ntmps17
    go_wp2_with fail
    refine (linkAt_some p room F rs a cap i _ HR.out HI.out).mono ?_
    rintro e w1 ⟨rfl, rfl⟩
    rw [HRr.out]
    dsimp only
    go_wp2_with fail
    go_ret
    exact ⟨rfl, rfl⟩
end Go.Proofs.Ytjelfenkbngfiaa
