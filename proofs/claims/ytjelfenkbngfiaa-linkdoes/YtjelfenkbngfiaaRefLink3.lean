/-
  The document's own Link (package shunterref04): what Take comes to. Conditions: none but that the link is one.
-/
import Derived.Test.YtjelfenkbngfiaaRefLink2
namespace Go.Proofs.Ytjelfenkbngfiaa
open Go.ChangeShapes Go.WideShapes Go.ChangeAt Go.RowKit
set_option linter.unusedVariables false

theorem vals_one (rs : List RowV) : ∀ u ∈ rs.map RowV.val, u.oneCell' = true := by
  intro u hu
  obtain ⟨r, _, rfl⟩ := List.mem_map.1 hu
  rfl
/-- append of rows to a slice of rows that is new since B -/
theorem wpList_append_lines {w : World} {ops : Array Oper} {rest : List Oper} {o : Oper} {a : Act} {Q : Exit → Act → World → Prop} (hgd : o.guard = none) (s x : Operand)
    (ho : o.op = .call { callee := .builtin .append, args := #[s, x], argTypes := #[27, 27] })
    (B : Nat) (hB : B ≤ w.heap.size) (a1 : Option Addr) (n1 cap1 : Nat) (rs1 : List RowV) (hs : a.eval s = .slice a1 n1 cap1) (h1 : w.ownsRow B 29 1 (.slice a1 n1 cap1) n1 (rs1.map RowV.val))
    (ad : Addr) (m c : Nat) (rs2 : List RowV) (hx : a.eval x = .slice (some ad) m c) (hm : rs2.length = m) (h2 : ∀ j, j < m → w.cell? (ad.add j) = some (rs2.getD j zrow).val) (hb : n1 + m ≤ 1000) (tot : Nat) (ht : n1 + m = tot)
    (h : ∀ a' cap' w', w'.ownsRow B 29 1 (.slice a' tot cap') tot ((rs1 ++ rs2).map RowV.val) → Below B w w' → wpList Try.prog ops Q rest (a.put o.dst (.slice a' tot cap')) w') : wpList Try.prog ops Q (o :: rest) a w := by
  subst ht
  obtain ⟨i0, hi, hz0, hz1, hz2⟩ := info_parts infoL
  refine wpList_append_own w hgd s x 27 ho B 29 i0 (.slice none 0 0) 1 24 Try.underlying27 hi hz0 hz1 hz2 rfl (by decide) _ n1 (rs1.map RowV.val) hs h1 ad m c (rs2.map RowV.val) hx (by simp [hm]) ?_ (vals_one rs2) (by unfold maxLen; omega) (by omega) hB ?_
  · intro j u hj
    have hjl : j < rs2.length := by
      rcases Nat.lt_or_ge j rs2.length with h' | h'
      · exact h'
      · rw [List.getElem?_eq_none (by simpa using h')] at hj; cases hj
    rw [h2 j (by omega)]
    simpa [List.getD_eq_getElem?_getD, hjl] using hj
  · intro v' w' hown' hg hnil
    rw [← List.map_append] at hown'
    have hBw : Below B w w' := (Below.refl B w).grown hg hB (fun k hk => (h1.lt k hk).1)
    rcases hown'.2 with ⟨rfl, h0⟩ | ⟨g, cp, cur, rfl, _⟩
    · have := h none 0 w' (by rw [h0] at hown' ⊢; exact hown') hBw
      rw [h0] at this
      exact this
    · exact h (some ⟨g, 0, none⟩) cp w' hown' hBw
theorem cut_at {rs : List RowV} {i : Nat} (h : i < rs.length) : rs.take i ++ rs.drop (i + 1) = rs.eraseIdx i := (List.eraseIdx_eq_take_drop_succ rs i).symm
set_option maxHeartbeats 400000 in
theorem refTake_none (p room : Nat) (F : Nat → Prop) (rs : List RowV) (a : Option Addr) (cap : Nat) (z : Int) (w : World) (h : RefAt w F p room rs a cap) (hz : z < 0 ∨ (rs.length : Int) ≤ z) :
    Calls Try.prog 19 #[.pointer (some ⟨p, 0, none⟩), .int .i64 z] w fun e w' => e = .returned (.tuple #[.slice none 0 0, .bool false]) ∧ w' = w := by
  have hc0 := h.c0
  obtain ⟨n, hn⟩ : ∃ n, n = rs.length := ⟨_, rfl⟩
  rw [← hn] at hc0 hz
  have hr := h.room1
  have hnb : n ≤ 64 := by omega
  clear hn h hr
  rcases hz with hz | hz
  · go_enter Try.func19, Try.ntmps19
    go_wp2_with fail
    go_ret2
    exact ⟨rfl, rfl⟩
  · have h0 : 0 ≤ z := by omega
    go_enter Try.func19, Try.ntmps19
    go_wp2_with fail
    go_ret2
    exact ⟨rfl, rfl⟩
theorem refTake_end {w u3 : World} {F : Nat → Prop} {p room n i : Nat} {rs : List RowV} {a a3 : Option Addr} {cap cap3 : Nat} (h : RefAt w F p room rs a cap) (hn : rs.length = n) (hi : i < n) (b3 : Below w.heap.size w u3)
    (hown : u3.ownsRow w.heap.size 29 1 (.slice a3 (n - 1) cap3) (n - 1) (([] ++ rs.take i ++ rs.drop (i + 1)).map RowV.val)) (s0 : u3.cell? ⟨p, 0, none⟩ = some (.slice a n cap)) (s1 : u3.frozen? ⟨p, 0, none⟩ = false) :
    ∃ F', RefAt (u3.setCell ⟨p, 0, none⟩ (.slice a3 (n - 1 : Nat) cap3)) F' p room (rs.eraseIdx i) a3 cap3 ∧ Grows F w F' (u3.setCell ⟨p, 0, none⟩ (.slice a3 (n - 1 : Nat) cap3)) ∧ (rs.getD i zrow).ok (u3.setCell ⟨p, 0, none⟩ (.slice a3 (n - 1 : Nat) cap3)) := by
  have hp := h.foot p h.self
  rw [List.nil_append, cut_at (by omega)] at hown
  have hle : (rs.eraseIdx i).length = n - 1 := by rw [List.length_eraseIdx_of_lt (by omega), hn]
  have SW : Sans (fun k => k = p) w (u3.setCell ⟨p, 0, none⟩ (.slice a3 (n - 1 : Nat) cap3)) := (Sans.of_below b3).trans (Sans.of_set u3 ⟨p, 0, none⟩ _ (F := fun k => k = p) rfl) (fun k hk => .inl hk)
  have hset : (u3.setCell ⟨p, 0, none⟩ (.slice a3 (n - 1 : Nat) cap3)).heap.size = u3.heap.size := by simp [World.setCell]
  have hro : ∀ ad, a3 = some ad → w.heap.size ≤ ad.block ∧ ad.block < u3.heap.size := by
    intro ad e
    subst e
    exact hown.lt ad.block rfl
  refine ⟨fun k => F k ∨ (w.heap.size ≤ k ∧ k < u3.heap.size), ⟨?_, .inl h.self, ⟨h.room1.1, h.room1.2.1, by have := h.room1.2.2; omega⟩, by simpa using s1, ?_, ?_, ?_, ?_, ?_⟩, ⟨SW.mono ?_, ?_⟩, ?_⟩
  · rintro k (hk | hk)
    · have := h.foot k hk
      have := b3.size
      rw [hset]; omega
    · rw [hset]; exact hk.2
  · rw [World.cell?_setCell_other]
    · exact (b3.cell (p := ⟨p, 1, none⟩) hp).trans h.c1
    · simp
  · rw [hle]
    exact World.cell?_setCell_same _ _ _ s0
  · refine OwnL.sans (F := fun k => k = p) (w := u3) ?_ (Sans.of_set u3 ⟨p, 0, none⟩ _ rfl) (fun ad e hp2 => by have := hro ad e; omega)
    unfold OwnL
    rw [hle]
    exact ⟨hown.1, hown.2.imp id fun ⟨g, c, cur, e, hb, r⟩ => ⟨g, c, cur, e, Nat.zero_le _, r⟩⟩
  · intro ad e
    exact ⟨.inr (hro ad e), by have := hro ad e; omega⟩
  · intro r hr
    obtain ⟨h1, h2, h3⟩ := h.rows r (List.mem_of_mem_eraseIdx hr)
    refine ⟨h1.sans SW (fun ad e => (h3 ad e).2.1), h2, fun ad e => ⟨.inl (h3 ad e).1, (h3 ad e).2.1, fun ah ea => ?_⟩⟩
    have := h.foot _ (h3 ad e).1
    have := hro ah ea
    omega
  · intro k hk
    rw [hk]; exact h.self
  · rintro k (hk | hk)
    · exact .inl hk
    · exact .inr hk.1
  · obtain ⟨h1, h2, h3⟩ := h.rows _ (getD_mem_rows (rs := rs) (j := i) (by omega))
    exact h1.sans SW (fun ad e => (h3 ad e).2.1)
set_option maxHeartbeats 1000000 in
theorem refTake_some (p room : Nat) (F : Nat → Prop) (rs : List RowV) (a : Option Addr) (cap i : Nat) (w : World) (h : RefAt w F p room rs a cap) (hi : i < rs.length) :
    Calls Try.prog 19 #[.pointer (some ⟨p, 0, none⟩), .int .i64 i] w fun e w' => ∃ F' a' cap', e = .returned (.tuple #[.slice (rs.getD i zrow).a (rs.getD i zrow).len (rs.getD i zrow).cap, .bool true]) ∧ RefAt w' F' p room (rs.eraseIdx i) a' cap' ∧ Grows F w F' w' ∧ (rs.getD i zrow).ok w' := by
  have HR : Hid (RefAt w F p room rs a cap) := h
  have hc0 := h.c0
  have hf0 := h.f0
  have hp := h.foot p h.self
  obtain ⟨g, rfl, hg, hcap⟩ := h.some (by omega)
  have hmx := h.own.maxcap
  have hgp : g ≠ p := (h.head _ rfl).2
  have hci := h.own.at hi
  have HA : Hid (∀ j, j < rs.length → w.cell? ⟨g, j, none⟩ = some (.slice (rs.getD j zrow).a (rs.getD j zrow).len (rs.getD j zrow).cap)) := fun j hj => h.own.at hj
  obtain ⟨r, hr⟩ : ∃ r, rs.getD i zrow = r := ⟨_, rfl⟩
  have HRr : Hid (rs.getD i zrow = r) := hr
  rw [hr] at hci ⊢
  obtain ⟨n, hn⟩ : ∃ n, rs.length = n := ⟨_, rfl⟩
  have HN : Hid (rs.length = n) := hn
  rw [hn] at hc0 hi hcap
  have hm := h.room1
  rw [hn] at hm
  obtain ⟨ra, rl, rc, rt⟩ := r
  clear hn h hr
  simp only at hci ⊢
  have hi2 : (i : Int) < n := by omega
  have hi3 : (i : Int) ≤ cap := by omega
  have hi4 : (i : Int) + 1 ≤ n := by omega
  have hi5 : (n : Int) ≤ cap := by omega
  by_cases hce : cap = i + 1
  · subst hce
    go_enter Try.func19, Try.ntmps19
    go_wp2_with (first
      | (at_builtin; refine wpList_append_lines rfl _ (.tmp 32) rfl w.heap.size (Nat.le_refl _) none 0 0 [] rfl (World.ownsRow_nil _ _ _ _) ⟨g, 0, none⟩ i (i + 1) (rs.take i) rfl (by rw [List.length_take, HN.out]; omega) (fun j hj => by rw [add_none, Nat.zero_add, HA.out j (by rw [HN.out]; omega)]; simp [RowV.val, List.getD_eq_getElem?_getD, hj]) (by omega) i (by omega) ?_; intro a2 cap2 u2 o2 b2; have q0 : u2.cell? ⟨p, 0, none⟩ = some (.slice (some ⟨g, 0, none⟩) n (i + 1)) := (b2.cell (p := ⟨p, 0, none⟩) hp).trans hc0)
      | (at_builtin; refine wpList_append_lines rfl _ (.tmp 41) rfl w.heap.size b2.size a2 i cap2 ([] ++ rs.take i) rfl o2 ⟨g, 0, none⟩ 0 _ (rs.drop (i + 1)) rfl (by rw [List.length_drop, HN.out]; omega) (fun j hj => by omega) (by omega) (n - 1) (by omega) ?_; intro a3 cap3 u3 o3 b3; have s0 : u3.cell? ⟨p, 0, none⟩ = some (.slice (some ⟨g, 0, none⟩) n (i + 1)) := (b3.cell (p := ⟨p, 0, none⟩) hp).trans q0; have s1 : u3.frozen? ⟨p, 0, none⟩ = false := (b3.frozen (p := ⟨p, 0, none⟩) hp).trans ((b2.frozen (p := ⟨p, 0, none⟩) hp).trans hf0)))
    go_ret2
    obtain ⟨F', hF, hG, hk⟩ := refTake_end HR.out HN.out (by omega) (b2.trans b3) o3 s0 s1
    exact ⟨F', a3, cap3, rfl, hF, hG, by rw [← HRr.out]; exact hk⟩
  · go_enter Try.func19, Try.ntmps19
    go_wp2_with (first
      | (at_builtin; refine wpList_append_lines rfl _ (.tmp 32) rfl w.heap.size (Nat.le_refl _) none 0 0 [] rfl (World.ownsRow_nil _ _ _ _) ⟨g, 0, none⟩ i cap (rs.take i) rfl (by rw [List.length_take, HN.out]; omega) (fun j hj => by rw [add_none, Nat.zero_add, HA.out j (by rw [HN.out]; omega)]; simp [RowV.val, List.getD_eq_getElem?_getD, hj]) (by omega) i (by omega) ?_; intro a2 cap2 u2 o2 b2; have q0 : u2.cell? ⟨p, 0, none⟩ = some (.slice (some ⟨g, 0, none⟩) n cap) := (b2.cell (p := ⟨p, 0, none⟩) hp).trans hc0)
      | (at_builtin; refine wpList_append_lines rfl _ (.tmp 41) rfl w.heap.size b2.size a2 i cap2 ([] ++ rs.take i) rfl o2 ⟨g, i + 1, none⟩ (n - (i + 1)) _ (rs.drop (i + 1)) rfl (by rw [List.length_drop, HN.out]) (fun j hj => by rw [add_none, b2.cell (p := ⟨g, i + 1 + j, none⟩) hg, HA.out (i + 1 + j) (by rw [HN.out]; omega)]; simp [RowV.val, List.getD_eq_getElem?_getD]) (by omega) (n - 1) (by omega) ?_; intro a3 cap3 u3 o3 b3; have s0 : u3.cell? ⟨p, 0, none⟩ = some (.slice (some ⟨g, 0, none⟩) n cap) := (b3.cell (p := ⟨p, 0, none⟩) hp).trans q0; have s1 : u3.frozen? ⟨p, 0, none⟩ = false := (b3.frozen (p := ⟨p, 0, none⟩) hp).trans ((b2.frozen (p := ⟨p, 0, none⟩) hp).trans hf0)))
    go_ret2
    obtain ⟨F', hF, hG, hk⟩ := refTake_end HR.out HN.out (by omega) (b2.trans b3) o3 s0 s1
    exact ⟨F', a3, cap3, rfl, hF, hG, by rw [← HRr.out]; exact hk⟩
end Go.Proofs.Ytjelfenkbngfiaa
