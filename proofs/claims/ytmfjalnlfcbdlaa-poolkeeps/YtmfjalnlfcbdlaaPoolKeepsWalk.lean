/-
  The law PoolKeeps of package shunterlaw07, over a slice of calls that is handed in. Conditions: that the number is of its kind, and the slice leads to calls.
-/
import Derived.Test.YtmfjalnlfcbdlaaPoolOps
import Derived.Deep.DeepCutAuto
namespace Go.Proofs.Ytmfjalnlfcbdlaa
open Go.ChangeShapes Go.WideShapes Go.ChangeAt Go.RowKit
set_option linter.unusedVariables false

/-- a pool of the call's own, and beside it which slots are full (block bh), what they have (block bw), how many -/
structure Keeping (w wr : World) (p n bh bw full : Nat) (S : List (Option Pk)) (E : List Nat) : Prop where
  mine : Mine (fun j => j = bh ∨ j = bw) w wr p n S E
  nh : w.heap.size ≤ bh
  nw : w.heap.size ≤ bw
  ne : bh ≠ bw
  has : wr.ownsRow 0 3 1 (.slice (some ⟨bh, 0, none⟩) n n) n (S.map flag)
  what : ∃ xs, wr.ownsRow 0 27 4 (.slice (some ⟨bw, 0, none⟩) n n) n xs
  pks : ∀ (k : Nat) (x : Pk), S[k]? = some (some x) → PkAt wr bw (k * 4) x
  cnt : full + E.length = n
theorem empty_of {S : List (Option Pk)} {k : Nat} (hk : k < S.length) (h : look S k = none) : S[k]? = some none := by
  rcases look_none h with e | e | ⟨j, e, h1, h2⟩
  · omega
  · omega
  · obtain rfl : k = j := by omega
    exact h2
theorem full_of {S : List (Option Pk)} {k : Nat} {x : Pk} (h : look S k = some x) : S[k]? = some (some x) := by
  obtain ⟨j, e, _, h2⟩ := look_is h
  obtain rfl : k = j := by omega
  exact h2
section
variable {w wr u : World} {p n bh bw full : Nat} {S S' : List (Option Pk)} {E E' : List Nat}
theorem Keeping.lt (h : Keeping w wr p n bh bw full S E) : ∀ j, (j = bh ∨ j = bw) → j < wr.heap.size := by
  obtain ⟨xs, hx⟩ := h.what
  rintro j (rfl | rfl)
  · exact (h.has.lt _ rfl).2
  · exact (hx.lt _ rfl).2
theorem Keeping.cell (h : Keeping w wr p n bh bw full S E) {k : Nat} {v : Option Pk} (hk : S[k]? = some v) : wr.cell? ⟨bh, k, none⟩ = some (flag v) := by
  have hlt : k < n := by rw [← h.mine.inv.len]; exact (List.getElem?_eq_some_iff.1 hk).1
  rw [owns_cells h.has hlt, List.getElem?_map, hk]
  rfl
/-- a call on the pool that leaves what stands beside it -/
theorem Keeping.same (h : Keeping w wr p n bh bw full S E) (k : Below wr.heap.size wr u) : Keeping w u p n bh bw full S E := by
  obtain ⟨xs, hx⟩ := h.what
  exact ⟨h.mine.on k, h.nh, h.nw, h.ne, owns_below h.has k, ⟨xs, owns_below hx k⟩, fun j x hj => (h.pks j x hj).below k, h.cnt⟩
theorem Keeping.rows (h : Keeping w wr p n bh bw full S E) (s : Sans (fun j => ¬ (j = bh ∨ j = bw)) wr u) :
    u.ownsRow 0 3 1 (.slice (some ⟨bh, 0, none⟩) n n) n (S.map flag) ∧ (∃ xs, u.ownsRow 0 27 4 (.slice (some ⟨bw, 0, none⟩) n n) n xs) ∧ ∀ (k : Nat) (x : Pk), S[k]? = some (some x) → PkAt u bw (k * 4) x := by
  obtain ⟨xs, hx⟩ := h.what
  exact ⟨owns_at h.has s (fun e => e (.inl rfl)), ⟨xs, owns_at hx s (fun e => e (.inr rfl))⟩, fun k x hk => (h.pks k x hk).sans s (fun e => e (.inr rfl))⟩
theorem Keeping.emptied (h : Keeping w wr p n bh bw (full + 1) S E) {K : Nat} (m : Mine (fun j => j = bh ∨ j = bw) w u p n (S.set K none) (E ++ [K])) (s : Sans (fun j => ¬ (j = bh ∨ j = bw)) wr u) :
    Keeping w (u.setCell ⟨bh, K, none⟩ (.int .i64 0)) p n bh bw full (S.set K none) (E ++ [K]) := by
  obtain ⟨r1, ⟨xs, r2⟩, r3⟩ := h.rows s
  have s2 : Sans (fun j => j = bh) u (u.setCell ⟨bh, K, none⟩ (.int .i64 0)) := Sans.of_set u ⟨bh, K, none⟩ _ rfl
  refine ⟨m.side (s2.mono (fun j e => .inl e)) (fun j e => e.elim (fun e => by rw [e]; exact h.nh) (fun e => by rw [e]; exact h.nw)), h.nh, h.nw, h.ne, ?_, ⟨xs, owns_at r2 s2 (fun e => h.ne e.symm)⟩, ?_, ?_⟩
  · have := (r1.stored K (flag none)).1
    rw [flags_set] at this
    exact this
  · intro k x hk
    by_cases hkK : k = K
    · subst hkK
      have hlt : k < (S.set k none).length := (List.getElem?_eq_some_iff.1 hk).1
      rw [List.length_set] at hlt
      rw [List.getElem?_set_self hlt] at hk
      simp at hk
    · rw [List.getElem?_set_ne (fun e => hkK e.symm)] at hk
      exact (r3 k x hk).sans s2 (fun e => h.ne e.symm)
  · have := h.cnt
    simp
    omega
theorem Keeping.still (h : Keeping w wr p n bh bw full S E) {K : Nat} (hK : S[K]? = some none) : Keeping w (wr.setCell ⟨bh, K, none⟩ (.int .i64 0)) p n bh bw full S E := by
  have s2 : Sans (fun j => j = bh) wr (wr.setCell ⟨bh, K, none⟩ (.int .i64 0)) := Sans.of_set wr ⟨bh, K, none⟩ _ rfl
  obtain ⟨xs, r2⟩ := h.what
  refine ⟨h.mine.side (s2.mono (fun j e => .inl e)) (fun j e => e.elim (fun e => by rw [e]; exact h.nh) (fun e => by rw [e]; exact h.nw)), h.nh, h.nw, h.ne, ?_, ⟨xs, owns_at r2 s2 (fun e => h.ne e.symm)⟩, fun k x hk => (h.pks k x hk).sans s2 (fun e => h.ne e.symm), h.cnt⟩
  have := (h.has.stored K (flag none)).1
  rw [flags_set] at this
  have e : S.set K none = S := by
    obtain ⟨hl, he⟩ := List.getElem?_eq_some_iff.1 hK
    rw [← he]
    exact List.set_getElem_self hl
  rw [e] at this
  exact this
theorem Keeping.filled {K : Nat} (h : Keeping w wr p n bh bw full S (E ++ [K])) {x : Pk} (m : Mine (fun j => j = bh ∨ j = bw) w u p n (S.set K (some x)) E) (s : Sans (fun j => ¬ (j = bh ∨ j = bw)) wr u) :
    Keeping w (lay4 (u.setCell ⟨bh, K, none⟩ (.int .i64 1)) bw (K * 4) x) p n bh bw (full + 1) (S.set K (some x)) E := by
  obtain ⟨r1, ⟨xs, r2⟩, r3⟩ := h.rows s
  have hK : K < n := h.mine.inv.lt (by simp)
  have s2 : Sans (fun j => j = bh) u (u.setCell ⟨bh, K, none⟩ (.int .i64 1)) := Sans.of_set u ⟨bh, K, none⟩ _ rfl
  have s3 := lay4_sans (u.setCell ⟨bh, K, none⟩ (.int .i64 1)) bw (K * 4) x
  have r2' := owns_at r2 s2 (fun e => h.ne e.symm)
  refine ⟨m.side ((s2.mono (fun j e => .inl e)).then (s3.mono (fun j e => .inr e))) (fun j e => e.elim (fun e => by rw [e]; exact h.nh) (fun e => by rw [e]; exact h.nw)), h.nh, h.nw, h.ne, ?_, lay4_own r2', ?_, ?_⟩
  · have := (r1.stored K (flag (some x))).1
    rw [flags_set] at this
    exact owns_at this s3 h.ne
  · intro k y hk
    by_cases hkK : k = K
    · subst hkK
      rw [List.getElem?_set_self (by rw [h.mine.inv.len]; exact hK)] at hk
      simp at hk
      subst hk
      exact lay4_same r2' (by omega)
    · rw [List.getElem?_set_ne (fun e => hkK e.symm)] at hk
      exact lay4_other ((r3 k y hk).sans s2 (fun e => h.ne e.symm)) (by omega)
  · have := h.cnt
    simp at this
    omega
end
set_option maxRecDepth 100000 in
set_option maxHeartbeats 4000000 in
theorem poolKeeps_walk (a0 : Int) (h0 : 0 ≤ a0 ∧ a0 ≤ 255) (a : Option Addr) (len cap : Nat) (os : List OpV) (w : World) (ho : Ops w a len os) :
    Calls Try.prog 7 #[.int .u8 a0, .slice a len cap] w fun e w' => e = .returned (.bool true) ∧ Below w.heap.size w w' := by
  have HO : Hid (Ops w a len os) := ho
  obtain ⟨h00, h01⟩ := h0
  have hl1 := ho.2.1
  clear ho
  obtain ⟨n, hn⟩ : ∃ n : Nat, 1 + a0 % 200 = n := ⟨(1 + a0 % 200).toNat, by omega⟩
  have hn1 : 1 ≤ n := by omega
  have hn2 : n ≤ 200 := by omega
  by_cases hb : 200 < len
  · go_enter Try.func7, Try.ntmps7
    go_wp2_with fail
    refine (known_any _).mono ?_
    rintro e u2 ⟨rfl, b2⟩
    go_wp2_with fail
    go_ret
    exact ⟨rfl, b2⟩
  · have hmk := run_make_row' (P := Try.prog) 43 3 (.int .i64 0) 8 Try.underlying43 infoI rfl .i64 .i64 n (by omega) (by omega)
    have hmp := make_pks n hn2
    have hb2 : ¬ (200 : Int) < len := by omega
    go_enter Try.func7, Try.ntmps7
    go_wp2_with fail
    refine (known_any _).mono ?_
    rintro e u1 ⟨rfl, b1⟩
    have HB1 : Hid (Below w.heap.size w u1) := b1
    clear b1
    go_wp2_with fail
    refine (m_new (w0 := w) n ⟨hn1, hn2⟩ HB1.out (G := fun _ => False) nothing).mono ?_
    rintro e u2 ⟨p, rfl, m2, _⟩
    have H2 : Hid (Solo w u2 p n (none_ n) (down n)) := m2
    clear m2
    go_wp2_with fail
    have HK0 : Hid (Keeping w ((u2.alloc (.cells (madeCells #[.int .i64 0] n) 3)).alloc (.cells (zpks n) 27)) p n u2.heap.size (u2.heap.size + 1) 0 (none_ n) (down n)) := by
      have hz := H2.out.below.size
      refine ⟨((H2.out.wider (G' := fun j => j = u2.heap.size ∨ j = u2.heap.size + 1) (fun j e => .inr (by omega))).on (fresh _ _)).on (fresh _ _), hz, by omega, by omega, ?_, ?_, ?_, by rw [down_length]; omega⟩
      · have := owns_below (made_ints u2 n hn2) (fresh _ (.cells (zpks n) 27))
        rw [show (none_ n).map flag = List.replicate n (.int .i64 0) by unfold none_; rw [List.map_replicate]; rfl]
        exact this
      · have := made_pks (u2.alloc (.cells (madeCells #[.int .i64 0] n) 3)) n hn2
        exact ⟨_, by simpa using this⟩
      · intro k x hk
        have : k < n := by have := (List.getElem?_eq_some_iff.1 hk).1; simpa [none_] using this
        rw [none_at.2 this] at hk
        simp at hk
    generalize hWW : (u2.alloc (.cells (madeCells #[.int .i64 0] n) 3)).alloc (.cells (zpks n) 27) = W0 at HK0 ⊢
    obtain ⟨bw, hbw⟩ : ∃ bw, u2.heap.size + 1 = bw := ⟨_, rfl⟩
    rw [hbw] at HK0 ⊢
    generalize hbh : u2.heap.size = bh at HK0 ⊢
    clear hWW hbw hbh H2 HB1 hmk hmp
    go_loopw [9, 10, 11, 12, 13] (fun f i _ _ _ wr => ∃ (k full : Nat) (S : List (Option Pk)) (E : List Nat), k ≤ len ∧ f = .int .i64 full ∧ i = .int .i64 k ∧ Keeping w wr p n bh bw full S E) (fun _ i _ _ _ _ => len - (intOf i).toNat)
    case atStart => exact ⟨0, 0, _, _, Nat.zero_le _, rfl, rfl, HK0.out⟩
    case round =>
      obtain ⟨k, full, S, E, hk, rfl, rfl, hkp⟩ := hrel
      have HK : Hid (Keeping w wr p n bh bw full S E) := hkp
      have hcnt : Hid (full + E.length = n) := hkp.cnt
      have hfn : full ≤ n := by have := hkp.cnt; omega
      clear hkp HK0
      by_cases hkl : k < len
      · obtain ⟨b, off, v, rfl, hat⟩ := HO.out.at hkl
        have HAt : Hid (OpAt w b (off + k * 6) v) := hat
        obtain ⟨q1, ⟨q2, q3, q4, q5⟩, q6, hk8, hi1, hi2⟩ := hat.below HK.out.mine.below
        obtain ⟨vk, ⟨vs, vd, vl, vb⟩, vi⟩ := v
        simp only at q1 q2 q3 q4 q5 q6 hk8 hi1 hi2
        clear hat
        have hkl2 : (k : Int) < len := by omega
        by_cases h4 : vk % 4 = 2
        · have h4i : (vk : Int) % 4 = 2 := by omega
          by_cases hneg : vi < 0
          · have hneg2 : ¬ 0 ≤ vi := by omega
            have hK0 : 0 < n := hn1
            cases hlk : look S (0 : Nat) with
            | none =>
              have HN0 : Hid (S[0]? = some none) := empty_of (by rw [HK.out.mine.inv.len]; omega) hlk
              have HLN : Hid (look S (0 : Nat) = none) := hlk
              have hch := HK.out.cell HN0.out
              have hfh := HK.out.has.frozenAt 0
              simp only [flag, Option.isSome_none, if_neg Bool.false_ne_true] at hch
              clear hlk
              go_wp2_with fail
              go_region_held3 (fun w' => w'.cell? ⟨bh, 0, none⟩ = some (.int .i64 0)) (go_keep) (first | (go_at_call 13; refine (m_drop_no (HK.out.mine.on (drewN_below _ 1)) (by omega) HLN.out).mono ?_; rintro e u4 ⟨rfl, rfl⟩))
              have HK4 : Hid (Keeping w (wr.drewN 1) p n bh bw full S E) := HK.out.same (drewN_below _ 1)
              generalize wr.drewN 1 = u4 at HK4 ⊢
              clear HK hch hfh q1 q2 q3 q4 q5 q6
              have hch := HK4.out.cell HN0.out
              have hfh := HK4.out.has.frozenAt 0
              simp only [flag, Option.isSome_none, if_neg Bool.false_ne_true] at hch
              go_wp2_with fail
              refine (m_free (HK4.out.still HN0.out).mine _ rfl).mono ?_
              rintro e u5 ⟨rfl, hu5⟩
              have HK5 : Hid (Keeping w u5 p n bh bw full S E) := by rw [hu5]; exact HK4.out.still HN0.out
              have hEn : ((E.length : Nat) : Int) = (n : Int) - full := by have := hcnt.out; omega
              clear hu5 HK4 hch hfh
              go_wp2_with fail
              go_roundw
              case rel => first | exact ⟨k + 1, full, S, E, by omega, by go_num, by go_num, HK5.out⟩ | ((repeat apply Exists.intro); exact ⟨⟨k + 1, full, S, E, by omega, by go_num, by go_num, HK5.out⟩, rfl⟩)
              case measure => simp [intOf]; omega
            | some x =>
              have HN0 : Hid (S[0]? = some (some x)) := full_of hlk
              have hch := HK.out.cell HN0.out
              have hfh := HK.out.has.frozenAt 0
              simp only [flag, Option.isSome_some, if_true] at hch
              obtain ⟨f1, rfl⟩ : ∃ f1, full = f1 + 1 := ⟨full - 1, by have := HK.out.mine.inv.room HN0.out; have := hcnt.out; omega⟩
              clear hlk
              go_wp2_with fail
              go_region_held3 (fun w' => w'.cell? ⟨bh, 0, none⟩ = some (.int .i64 1)) (go_keep) (first | (go_at_call 13; refine (m_drop_yes (HK.out.mine.on (drewN_below _ 1)) HK.out.lt HN0.out).mono ?_; rintro e u4 ⟨rfl, m4, s4⟩; have hcu : u4.cell? ⟨bh, 0, none⟩ = some (.int .i64 1) := (s4.cell (p := ⟨bh, 0, none⟩) (HK.out.lt bh (.inl rfl)) (fun e => e (.inl rfl))).trans hch))
              have HK4 : Hid (Mine (fun j => j = bh ∨ j = bw) w u4 p n (S.set 0 none) (E ++ [0]) ∧ Sans (fun j => ¬ (j = bh ∨ j = bw)) wr u4) := ⟨m4, (Sans.drewN wr 1).then s4⟩
              have r4 := (HK.out.rows HK4.out.2).1
              clear m4 s4 hch hfh hcu q1 q2 q3 q4 q5 q6
              have hch : u4.cell? ⟨bh, 0, none⟩ = some (.int .i64 1) := by
                rw [owns_cells r4 (by omega), List.getElem?_map, HN0.out]; rfl
              have hfh := r4.frozenAt 0
              clear r4
              go_wp2_with fail
              have HK5 : Hid (Keeping w (u4.setCell ⟨bh, 0, none⟩ (.int .i64 0)) p n bh bw f1 (S.set 0 none) (E ++ [0])) := HK.out.emptied HK4.out.1 HK4.out.2
              refine (m_free HK5.out.mine (E.length + 1) (by rw [List.length_append]; rfl)).mono ?_
              rintro e u5 ⟨rfl, hu5⟩
              rw [← hu5] at HK5
              have hEn : ((E.length + 1 : Nat) : Int) = (n : Int) - f1 := by have := hcnt.out; omega
              clear hu5 HK4 hch hfh HK
              go_wp2_with fail
              go_roundw
              case rel => first | exact ⟨k + 1, f1, (S.set 0 none), (E ++ [0]), by omega, by go_num, by go_num, HK5.out⟩ | ((repeat apply Exists.intro); exact ⟨⟨k + 1, f1, (S.set 0 none), (E ++ [0]), by omega, by go_num, by go_num, HK5.out⟩, rfl⟩)
              case measure => simp [intOf]; omega
          · obtain ⟨N, rfl⟩ := Int.eq_ofNat_of_zero_le (a := vi) (by omega)
            obtain ⟨K, hK⟩ : ∃ K : Nat, (N : Int) % n = K := ⟨N % n, by rw [Int.natCast_emod]⟩
            have hK2 : (K : Int) < n := by rw [← hK]; exact Int.emod_lt_of_pos _ (by omega)
            have hK0 : K < n := by omega
            have hnn : ¬ (n : Int) = 0 := by omega
            cases hlk : look S (K : Nat) with
            | none =>
              have HN0 : Hid (S[K]? = some none) := empty_of (by rw [HK.out.mine.inv.len]; omega) hlk
              have HLN : Hid (look S (K : Nat) = none) := hlk
              have hch := HK.out.cell HN0.out
              have hfh := HK.out.has.frozenAt K
              simp only [flag, Option.isSome_none, if_neg Bool.false_ne_true] at hch
              clear hlk
              go_wp2_with fail
              go_region_held3 (fun w' => w'.cell? ⟨bh, K, none⟩ = some (.int .i64 0)) (go_keep) (first | (go_at_call 13; refine (m_drop_no (HK.out.mine.on (drewN_below _ 1)) (by omega) HLN.out).mono ?_; rintro e u4 ⟨rfl, rfl⟩))
              have HK4 : Hid (Keeping w (wr.drewN 1) p n bh bw full S E) := HK.out.same (drewN_below _ 1)
              generalize wr.drewN 1 = u4 at HK4 ⊢
              clear HK hch hfh q1 q2 q3 q4 q5 q6
              have hch := HK4.out.cell HN0.out
              have hfh := HK4.out.has.frozenAt K
              simp only [flag, Option.isSome_none, if_neg Bool.false_ne_true] at hch
              go_wp2_with fail
              refine (m_free (HK4.out.still HN0.out).mine _ rfl).mono ?_
              rintro e u5 ⟨rfl, hu5⟩
              have HK5 : Hid (Keeping w u5 p n bh bw full S E) := by rw [hu5]; exact HK4.out.still HN0.out
              have hEn : ((E.length : Nat) : Int) = (n : Int) - full := by have := hcnt.out; omega
              clear hu5 HK4 hch hfh
              go_wp2_with fail
              go_roundw
              case rel => first | exact ⟨k + 1, full, S, E, by omega, by go_num, by go_num, HK5.out⟩ | ((repeat apply Exists.intro); exact ⟨⟨k + 1, full, S, E, by omega, by go_num, by go_num, HK5.out⟩, rfl⟩)
              case measure => simp [intOf]; omega
            | some x =>
              have HN0 : Hid (S[K]? = some (some x)) := full_of hlk
              have hch := HK.out.cell HN0.out
              have hfh := HK.out.has.frozenAt K
              simp only [flag, Option.isSome_some, if_true] at hch
              obtain ⟨f1, rfl⟩ : ∃ f1, full = f1 + 1 := ⟨full - 1, by have := HK.out.mine.inv.room HN0.out; have := hcnt.out; omega⟩
              clear hlk
              go_wp2_with fail
              go_region_held3 (fun w' => w'.cell? ⟨bh, K, none⟩ = some (.int .i64 1)) (go_keep) (first | (go_at_call 13; refine (m_drop_yes (HK.out.mine.on (drewN_below _ 1)) HK.out.lt HN0.out).mono ?_; rintro e u4 ⟨rfl, m4, s4⟩; have hcu : u4.cell? ⟨bh, K, none⟩ = some (.int .i64 1) := (s4.cell (p := ⟨bh, K, none⟩) (HK.out.lt bh (.inl rfl)) (fun e => e (.inl rfl))).trans hch))
              have HK4 : Hid (Mine (fun j => j = bh ∨ j = bw) w u4 p n (S.set K none) (E ++ [K]) ∧ Sans (fun j => ¬ (j = bh ∨ j = bw)) wr u4) := ⟨m4, (Sans.drewN wr 1).then s4⟩
              have r4 := (HK.out.rows HK4.out.2).1
              clear m4 s4 hch hfh hcu q1 q2 q3 q4 q5 q6
              have hch : u4.cell? ⟨bh, K, none⟩ = some (.int .i64 1) := by
                rw [owns_cells r4 (by omega), List.getElem?_map, HN0.out]; rfl
              have hfh := r4.frozenAt K
              clear r4
              go_wp2_with fail
              have HK5 : Hid (Keeping w (u4.setCell ⟨bh, K, none⟩ (.int .i64 0)) p n bh bw f1 (S.set K none) (E ++ [K])) := HK.out.emptied HK4.out.1 HK4.out.2
              refine (m_free HK5.out.mine (E.length + 1) (by rw [List.length_append]; rfl)).mono ?_
              rintro e u5 ⟨rfl, hu5⟩
              rw [← hu5] at HK5
              have hEn : ((E.length + 1 : Nat) : Int) = (n : Int) - f1 := by have := hcnt.out; omega
              clear hu5 HK4 hch hfh HK
              go_wp2_with fail
              go_roundw
              case rel => first | exact ⟨k + 1, f1, (S.set K none), (E ++ [K]), by omega, by go_num, by go_num, HK5.out⟩ | ((repeat apply Exists.intro); exact ⟨⟨k + 1, f1, (S.set K none), (E ++ [K]), by omega, by go_num, by go_num, HK5.out⟩, rfl⟩)
              case measure => simp [intOf]; omega
        · have h4i : ((vk : Int) % 4 == 2) = false := by simp; omega
          rcases List.eq_nil_or_concat E with rfl | ⟨E', K, rfl⟩
          · have hfl : full = n := by have := hcnt.out; simp at this; exact this
            have HF : Hid (full = n) := hfl
            have hfl2 : ¬ (full : Int) < n := by omega
            clear hfl
            go_wp2_with fail
            refine (m_put_none HK.out.mine vs vd vl vb).mono ?_
            rintro e u4 ⟨rfl, _, b4⟩
            have HK4 : Hid (Keeping w u4 p n bh bw full S []) := HK.out.same b4
            clear b4 HK q1 q2 q3 q4 q5 q6
            go_wp2_with fail
            refine (m_free HK4.out.mine 0 rfl).mono ?_
            rintro e u5 ⟨rfl, rfl⟩
            have hEn : (n : Int) - full = 0 := by have := HF.out; omega
            go_wp2_with fail
            go_roundw
            case rel => first | exact ⟨k + 1, full, S, [], by omega, by go_num, by go_num, HK4.out⟩ | ((repeat apply Exists.intro); exact ⟨⟨k + 1, full, S, [], by omega, by go_num, by go_num, HK4.out⟩, rfl⟩)
            case measure => simp [intOf]; omega
          · rw [List.concat_eq_append] at HK hcnt
            have hfl2 : (full : Int) < n := by have := hcnt.out; simp at this; omega
            have HKm : Hid (S[K]? = some none) := (HK.out.mine.inv.mem K).1 (by simp)
            have hKn : K < n := HK.out.mine.inv.lt (by simp)
            have hKn2 : (K : Int) < n := by omega
            have hKn3 : ¬ (n : Int) ≤ K := by omega
            go_wp2_with fail
            refine (m_put_some HK.out.mine HK.out.lt vs vd vl vb).mono ?_
            rintro e u4 ⟨rfl, m4, s4⟩
            have HM4 : Hid (Mine (fun j => j = bh ∨ j = bw) w u4 p n (S.set K (some ⟨vs, vd, vl, vb⟩)) E' ∧ Sans (fun j => ¬ (j = bh ∨ j = bw)) wr u4) := ⟨m4, s4⟩
            have r4 := (HK.out.rows s4).1
            have hch : u4.cell? ⟨bh, K, none⟩ = some (.int .i64 0) := by
              rw [owns_cells r4 (by omega), List.getElem?_map, HKm.out]; rfl
            have hfh := r4.frozenAt K
            clear m4 s4 r4 q1 q2 q3 q4 q5 q6
            go_upto_region 24 with fail
            have HK6 : Hid (Keeping w (lay4 (u4.setCell ⟨bh, K, none⟩ (.int .i64 1)) bw (K * 4) ⟨vs, vd, vl, vb⟩) p n bh bw (full + 1) (S.set K (some ⟨vs, vd, vl, vb⟩)) E') := HK.out.filled HM4.out.1 HM4.out.2
            have s5 : Sans (fun j => j = bh) u4 (u4.setCell ⟨bh, K, none⟩ (.int .i64 1)) := Sans.of_set u4 ⟨bh, K, none⟩ _ rfl
            have m5 := HM4.out.1.side (s5.mono (fun j e => .inl e)) (fun j e => e.elim (fun e => by rw [e]; exact HK.out.nh) (fun e => by rw [e]; exact HK.out.nw))
            obtain ⟨xs, r5⟩ := (HK.out.rows HM4.out.2).2.1
            have r6 := owns_at r5 s5 (fun e => HK.out.ne e.symm)
            obtain ⟨q1, ⟨q2, q3, q4, q5⟩, q6, _⟩ := HAt.out.below m5.below
            simp only at q1 q2 q3 q4 q5 q6
            obtain ⟨v0, g0⟩ := row4 r6 (j := K * 4) (by omega)
            obtain ⟨v1, g1⟩ := row4 r6 (j := K * 4 + 1) (by omega)
            obtain ⟨v2, g2⟩ := row4 r6 (j := K * 4 + 2) (by omega)
            obtain ⟨v3, g3⟩ := row4 r6 (j := K * 4 + 3) (by omega)
            have f0 := r6.frozenAt (K * 4)
            have f1 := r6.frozenAt (K * 4 + 1)
            have f2 := r6.frozenAt (K * 4 + 2)
            have f3 := r6.frozenAt (K * 4 + 3)
            clear r5 r6 m5 s5 hch hfh HM4 HK
            generalize u4.setCell ⟨bh, K, none⟩ (.int .i64 1) = u5 at *
            go_wp2_with fail
            refine (m_free HK6.out.mine E'.length rfl).mono ?_
            rintro e u6 ⟨rfl, hu6⟩
            have HK7 : Hid (Keeping w u6 p n bh bw (full + 1) (S.set K (some ⟨vs, vd, vl, vb⟩)) E') := by rw [hu6]; exact HK6.out
            have hEn : ((E'.length : Nat) : Int) = (n : Int) - (full + 1) := by have := hcnt.out; simp at this; omega
            clear hu6 HK6 q1 q2 q3 q4 q5 q6 g0 g1 g2 g3 f0 f1 f2 f3
            go_wp2_with fail
            go_roundw
            case rel => first | exact ⟨k + 1, (full + 1), (S.set K (some ⟨vs, vd, vl, vb⟩)), E', by omega, by go_num, by go_num, HK7.out⟩ | ((repeat apply Exists.intro); exact ⟨⟨k + 1, (full + 1), (S.set K (some ⟨vs, vd, vl, vb⟩)), E', by omega, by go_num, by go_num, HK7.out⟩, rfl⟩)
            case measure => simp [intOf]; omega
      · go_wp2_with fail
        go_loopw [14, 15, 16] (fun i _ _ v => ∃ j : Nat, j ≤ n ∧ i = .int .i64 j ∧ Keeping w v p n bh bw full S E) (fun i _ _ _ => n - (intOf i).toNat)
        case atStart => exact ⟨0, Nat.zero_le _, rfl, HK.out⟩
        case round =>
          obtain ⟨j, hj, rfl, hkp⟩ := hrel
          have HK1 : Hid (Keeping w wr p n bh bw full S E) := hkp
          clear hkp HK
          by_cases hjn : j < n
          · have hjn2 : (j : Int) < n := by omega
            cases hlk : look S j with
            | none =>
              have HN0 : Hid (S[j]? = some none) := empty_of (by rw [HK1.out.mine.inv.len]; omega) hlk
              have HLN : Hid (look S j = none) := hlk
              clear hlk
              go_wp2_with fail
              refine (m_get_no HK1.out.mine (by omega) HLN.out).mono ?_
              rintro e u4 ⟨rfl, _, b4⟩
              have b5 : Below wr.heap.size wr (u4.alloc (.cells #[.int .i64 0, .int .i64 0, .int .i64 0, .int .u32 0] 27)) := later b4 (fresh _ _)
              have HK5 : Hid (Keeping w (u4.alloc (.cells #[.int .i64 0, .int .i64 0, .int .i64 0, .int .u32 0] 27)) p n bh bw full S E) := HK1.out.same b5
              have hch := HK5.out.cell HN0.out
              simp only [flag, Option.isSome_none, if_neg Bool.false_ne_true] at hch
              clear b4 b5 HK1
              go_wp2_with fail
              go_quiet (fail)
              go_wp2_with fail
              go_roundw
              case rel => first | exact ⟨j + 1, by omega, by go_num, HK5.out.same (drewN_below _ _)⟩ | ((repeat apply Exists.intro); exact ⟨⟨j + 1, by omega, by go_num, HK5.out.same (drewN_below _ _)⟩, rfl⟩)
              case measure => simp [intOf]; omega
            | some x =>
              have HN0 : Hid (S[j]? = some (some x)) := full_of hlk
              clear hlk
              obtain ⟨xs, xd, xl, xb⟩ := x
              go_wp2_with fail
              refine (m_get_yes HK1.out.mine HN0.out).mono ?_
              rintro e u4 ⟨rfl, _, b4⟩
              dsimp only
              have b5 : Below wr.heap.size wr (u4.alloc (.cells #[.int .i64 xs, .int .i64 xd, .int .i64 xl, .int .u32 xb] 27)) := later b4 (fresh _ _)
              have HK5 : Hid (Keeping w (u4.alloc (.cells #[.int .i64 xs, .int .i64 xd, .int .i64 xl, .int .u32 xb] 27)) p n bh bw full S E) := HK1.out.same b5
              have hch := HK5.out.cell HN0.out
              simp only [flag, Option.isSome_some, if_true] at hch
              obtain ⟨g0, g1, g2, g3⟩ := HK5.out.pks j _ HN0.out
              simp only at g0 g1 g2 g3
              clear b4 b5 HK1
              go_wp2_with fail
              go_quiet (fail)
              go_wp2_with fail
              go_roundw
              case rel => first | exact ⟨j + 1, by omega, by go_num, HK5.out.same (drewN_below _ _)⟩ | ((repeat apply Exists.intro); exact ⟨⟨j + 1, by omega, by go_num, HK5.out.same (drewN_below _ _)⟩, rfl⟩)
              case measure => simp [intOf]; omega
          · have hjn2 : ¬ (j : Int) < n := by omega
            go_wp2_with fail
            go_ret
            exact ⟨rfl, HK1.out.mine.below⟩
theorem poolKeeps_any (_ : True) (w : World) (a0 : Int) (w0 : (Lit.int .u8 a0).wf = true) (a : Option Addr) (len cap : Nat) (os : List OpV) (ho : Ops w a len os) :
    Calls Try.prog 7 #[.int .u8 a0, .slice a len cap] w fun e w' => e = .returned (.bool true) ∧ Below w.heap.size w w' :=
  poolKeeps_walk a0 (bounds_u8 w0) a len cap os w ho
end Go.Proofs.Ytmfjalnlfcbdlaa
