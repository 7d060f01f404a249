/-
  The helper does of package shunterlaw08: a call on both rings answers alike. Conditions: none but that both are such.
-/
import Derived.Test.YtpbeldcaiceakaaRingBoth
namespace Go.Proofs.Ytpbeldcaiceakaa
open Go.ChangeShapes Go.WideShapes Go.ChangeAt Go.RowKit
set_option linter.unusedVariables false

theorem OpIn.seven {w : World} {b k : Nat} {i o l : Int} {nr : Bool} {vx : Pk} (h : OpIn w b ⟨k, i, o, l, nr, vx⟩) : w.cell? ⟨b, 1, none⟩ = some (.int .i64 i) ∧ w.cell? ⟨b, 2, none⟩ = some (.int .i64 o) ∧ w.cell? ⟨b, 3, none⟩ = some (.int .i64 l) ∧ w.cell? ⟨b, 5, none⟩ = some (.int .i64 vx.s) ∧ w.cell? ⟨b, 6, none⟩ = some (.int .i64 vx.d) ∧ w.cell? ⟨b, 7, none⟩ = some (.int .i64 vx.l) ∧ w.cell? ⟨b, 8, none⟩ = some (.int .u32 vx.b) :=
  ⟨h.2.1, h.2.2.1, h.2.2.2.1, h.2.2.2.2.2.1, h.2.2.2.2.2.2.1, h.2.2.2.2.2.2.2.1, h.2.2.2.2.2.2.2.2⟩
theorem Duo.mono {G : Nat → Prop} {w0 w : World} {p r P L n t c : Nat} {Qs : Pl → List Pk} {ls : List Ent} (m : Duo G w0 w p r P L n t c Qs ls) : Duo G w0 w p r P L n t (c + 1) Qs ls := by
  obtain ⟨F, H, h1, h2⟩ := m
  exact ⟨F, H, h1.mono (Nat.le_succ _), h2⟩
set_option maxHeartbeats 8000000 in
set_option maxRecDepth 100000 in
theorem does_any {G : Nat → Prop} {w0 w : World} {p r P L n c : Nat} {ls : List Ent} (m : Duo G w0 w p r P L n ls.length c (qof ls) ls) (hG : ∀ j, G j → j < w.heap.size) (hc : c < 900) (k : Nat) (i o l : Int) (nr : Bool) (vx : Pk) (hk : k < 256) (hq : Wf (i, o, l)) :
    Calls Try.prog 16 #[.pointer (some ⟨p, 0, none⟩), .pointer (some ⟨r, 0, none⟩), .agg #[.int .u8 k, .int .i64 i, .int .i64 o, .int .i64 l, .bool nr, .int .i64 vx.s, .int .i64 vx.d, .int .i64 vx.l, .int .u32 vx.b]] w fun e w' => e = .returned (.bool true) ∧ ∃ ls', Duo G w0 w' p r P L n ls'.length (c + 1) (qof ls') ls' ∧ Sans (fun j => ¬ G j) w w' := by
  obtain ⟨W, hW⟩ : ∃ W, W = w.alloc (.cells #[.int .u8 k, .int .i64 i, .int .i64 o, .int .i64 l, .bool nr, .int .i64 vx.s, .int .i64 vx.d, .int .i64 vx.l, .int .u32 vx.b] 35) := ⟨_, rfl⟩
  have HB : Hid (Below w.heap.size w W) := by rw [hW]; exact fresh _ _
  have HI : Hid (OpIn W w.heap.size ⟨k, i, o, l, nr, vx⟩) := by rw [hW]; exact OpIn.new w ⟨k, i, o, l, nr, vx⟩
  have HD : Hid (Duo (fun j => G j ∨ j = w.heap.size) w0 W p r P L n ls.length c (qof ls) ls) := (m.wider (G' := fun j => G j ∨ j = w.heap.size) (fun j e => e.imp id (fun e => by omega))).on HB.out
  have hG1 : Hid (∀ j, (G j ∨ j = w.heap.size) → j < W.heap.size) := fun j e => by
    have : w.heap.size < W.heap.size := by rw [hW]; simp
    rcases e with e | e
    · have := hG j e; omega
    · omega
  have HQ : Hid (Wf (i, o, l)) := hq
  obtain ⟨q0, q1, q2, q3, q4, q5, q6, q7, q8⟩ := HI.out
  simp only at q0 q1 q2 q3 q4 q5 q6 q7 q8
  obtain ⟨K, hK⟩ : ∃ K : Nat, (k : Int) % 6 = K := ⟨k % 6, by omega⟩
  have hK6 : K < 6 := by omega
  clear m hG hq
  have hKc : K = 0 ∨ K = 1 ∨ K = 2 ∨ K = 3 ∨ K = 4 ∨ K = 5 := by omega
  rcases hKc with rfl | rfl | rfl | rfl | rfl | rfl
  · obtain ⟨b, hb⟩ : ∃ b, takes P L n ls.length (i, o, l) = b := ⟨_, rfl⟩
    have HX : Hid (takes P L n ls.length (i, o, l) = b) := hb
    clear hb
    go_enter Try.func16, Try.ntmps16
    go_wp2_with fail
    rw [← hW]
    clear hW
    go_region_held3 (fun w' => w'.cell? ⟨w.heap.size, 1, none⟩ = some (.int .i64 i) ∧ w'.cell? ⟨w.heap.size, 2, none⟩ = some (.int .i64 o) ∧ w'.cell? ⟨w.heap.size, 3, none⟩ = some (.int .i64 l) ∧ w'.cell? ⟨w.heap.size, 5, none⟩ = some (.int .i64 vx.s) ∧ w'.cell? ⟨w.heap.size, 6, none⟩ = some (.int .i64 vx.d) ∧ w'.cell? ⟨w.heap.size, 7, none⟩ = some (.int .i64 vx.l) ∧ w'.cell? ⟨w.heap.size, 8, none⟩ = some (.int .u32 vx.b)) (first | exact CK2.out.seven | exact CK1.out.seven | exact (HI.out.below (drewN_below W 1)).seven)
      (first | (go_at_call 12; refine (d_push (HD.out.on (drewN_below W 1)) hG1.out (by omega) i o l HQ.out vx b HX.out).mono ?_; rintro e u1 ⟨rfl, m1, s1⟩; have CK1 : Hid (OpIn u1 w.heap.size ⟨k, i, o, l, nr, vx⟩) := (HI.out.below (drewN_below W 1)).sans s1 (fun e => e (.inr rfl)); have H1 : Hid (Duo (fun j => G j ∨ j = w.heap.size) w0 u1 p r P L n (pushT b ls.length) (c + 1) (pushQ b (qof ls) (i, o, l) vx) ls ∧ Sans (fun j => ¬ G j) w u1) := ⟨m1, ((Sans.of_below HB.out).then (Sans.drewN W 1)).then (s1.mono (fun j e e2 => e (.inl e2)))⟩; have hG2 : Hid (∀ j, (G j ∨ j = w.heap.size) → j < u1.heap.size) := fun j e => Nat.lt_of_lt_of_le (hG1.out j e) s1.size; clear m1 s1) | (go_at_call 28; refine (d_refPush H1.out.1 hG2.out i o l vx b HX.out).mono ?_; rintro e u2 ⟨rfl, m2, s2⟩; have CK2 : Hid (OpIn u2 w.heap.size ⟨k, i, o, l, nr, vx⟩) := CK1.out.sans s2 (fun e => e (.inr rfl)); have H2 : Hid (Duo G w0 u2 p r P L n (pushL b ls (i, o, l) vx).length (c + 1) (qof (pushL b ls (i, o, l) vx)) (pushL b ls (i, o, l) vx) ∧ Sans (fun j => ¬ G j) w u2) := ⟨by rw [← (pushed_both b ls (i, o, l) vx).1, ← (pushed_both b ls (i, o, l) vx).2]; exact m2.wider (fun j e => .inl (.inl e)), H1.out.2.then (s2.mono (fun j e e2 => e (.inl e2)))⟩; clear m2 s2))
    go_wp2_with fail
    all_goals
      go_ret
      exact ⟨ret_bool (by simp), _, H2.out⟩
  · obtain ⟨b, hb⟩ : ∃ b, takes P L n ls.length (i, o, l) = b := ⟨_, rfl⟩
    have HX : Hid (takes P L n ls.length (i, o, l) = b) := hb
    clear hb
    go_enter Try.func16, Try.ntmps16
    go_wp2_with fail
    rw [← hW]
    clear hW
    go_region_held3 (fun w' => w'.cell? ⟨w.heap.size, 1, none⟩ = some (.int .i64 i) ∧ w'.cell? ⟨w.heap.size, 2, none⟩ = some (.int .i64 o) ∧ w'.cell? ⟨w.heap.size, 3, none⟩ = some (.int .i64 l) ∧ w'.cell? ⟨w.heap.size, 5, none⟩ = some (.int .i64 vx.s) ∧ w'.cell? ⟨w.heap.size, 6, none⟩ = some (.int .i64 vx.d) ∧ w'.cell? ⟨w.heap.size, 7, none⟩ = some (.int .i64 vx.l) ∧ w'.cell? ⟨w.heap.size, 8, none⟩ = some (.int .u32 vx.b)) (first | exact CK2.out.seven | exact CK1.out.seven | exact (HI.out.below (drewN_below W 1)).seven)
      (first | (go_at_call 12; refine (d_push (HD.out.on (drewN_below W 1)) hG1.out (by omega) i o l HQ.out vx b HX.out).mono ?_; rintro e u1 ⟨rfl, m1, s1⟩; have CK1 : Hid (OpIn u1 w.heap.size ⟨k, i, o, l, nr, vx⟩) := (HI.out.below (drewN_below W 1)).sans s1 (fun e => e (.inr rfl)); have H1 : Hid (Duo (fun j => G j ∨ j = w.heap.size) w0 u1 p r P L n (pushT b ls.length) (c + 1) (pushQ b (qof ls) (i, o, l) vx) ls ∧ Sans (fun j => ¬ G j) w u1) := ⟨m1, ((Sans.of_below HB.out).then (Sans.drewN W 1)).then (s1.mono (fun j e e2 => e (.inl e2)))⟩; have hG2 : Hid (∀ j, (G j ∨ j = w.heap.size) → j < u1.heap.size) := fun j e => Nat.lt_of_lt_of_le (hG1.out j e) s1.size; clear m1 s1) | (go_at_call 28; refine (d_refPush H1.out.1 hG2.out i o l vx b HX.out).mono ?_; rintro e u2 ⟨rfl, m2, s2⟩; have CK2 : Hid (OpIn u2 w.heap.size ⟨k, i, o, l, nr, vx⟩) := CK1.out.sans s2 (fun e => e (.inr rfl)); have H2 : Hid (Duo G w0 u2 p r P L n (pushL b ls (i, o, l) vx).length (c + 1) (qof (pushL b ls (i, o, l) vx)) (pushL b ls (i, o, l) vx) ∧ Sans (fun j => ¬ G j) w u2) := ⟨by rw [← (pushed_both b ls (i, o, l) vx).1, ← (pushed_both b ls (i, o, l) vx).2]; exact m2.wider (fun j e => .inl (.inl e)), H1.out.2.then (s2.mono (fun j e e2 => e (.inl e2)))⟩; clear m2 s2))
    go_wp2_with fail
    all_goals
      go_ret
      exact ⟨ret_bool (by simp), _, H2.out⟩
  · obtain ⟨b, hb⟩ : ∃ b, takes P L n ls.length (i, o, l) = b := ⟨_, rfl⟩
    have HX : Hid (takes P L n ls.length (i, o, l) = b) := hb
    clear hb
    go_enter Try.func16, Try.ntmps16
    go_wp2_with fail
    rw [← hW]
    clear hW
    go_region_held3 (fun w' => w'.cell? ⟨w.heap.size, 1, none⟩ = some (.int .i64 i) ∧ w'.cell? ⟨w.heap.size, 2, none⟩ = some (.int .i64 o) ∧ w'.cell? ⟨w.heap.size, 3, none⟩ = some (.int .i64 l) ∧ w'.cell? ⟨w.heap.size, 5, none⟩ = some (.int .i64 vx.s) ∧ w'.cell? ⟨w.heap.size, 6, none⟩ = some (.int .i64 vx.d) ∧ w'.cell? ⟨w.heap.size, 7, none⟩ = some (.int .i64 vx.l) ∧ w'.cell? ⟨w.heap.size, 8, none⟩ = some (.int .u32 vx.b)) (first | exact CK2.out.seven | exact CK1.out.seven | exact (HI.out.below (drewN_below W 1)).seven)
      (first | (go_at_call 12; refine (d_push (HD.out.on (drewN_below W 1)) hG1.out (by omega) i o l HQ.out vx b HX.out).mono ?_; rintro e u1 ⟨rfl, m1, s1⟩; have CK1 : Hid (OpIn u1 w.heap.size ⟨k, i, o, l, nr, vx⟩) := (HI.out.below (drewN_below W 1)).sans s1 (fun e => e (.inr rfl)); have H1 : Hid (Duo (fun j => G j ∨ j = w.heap.size) w0 u1 p r P L n (pushT b ls.length) (c + 1) (pushQ b (qof ls) (i, o, l) vx) ls ∧ Sans (fun j => ¬ G j) w u1) := ⟨m1, ((Sans.of_below HB.out).then (Sans.drewN W 1)).then (s1.mono (fun j e e2 => e (.inl e2)))⟩; have hG2 : Hid (∀ j, (G j ∨ j = w.heap.size) → j < u1.heap.size) := fun j e => Nat.lt_of_lt_of_le (hG1.out j e) s1.size; clear m1 s1) | (go_at_call 28; refine (d_refPush H1.out.1 hG2.out i o l vx b HX.out).mono ?_; rintro e u2 ⟨rfl, m2, s2⟩; have CK2 : Hid (OpIn u2 w.heap.size ⟨k, i, o, l, nr, vx⟩) := CK1.out.sans s2 (fun e => e (.inr rfl)); have H2 : Hid (Duo G w0 u2 p r P L n (pushL b ls (i, o, l) vx).length (c + 1) (qof (pushL b ls (i, o, l) vx)) (pushL b ls (i, o, l) vx) ∧ Sans (fun j => ¬ G j) w u2) := ⟨by rw [← (pushed_both b ls (i, o, l) vx).1, ← (pushed_both b ls (i, o, l) vx).2]; exact m2.wider (fun j e => .inl (.inl e)), H1.out.2.then (s2.mono (fun j e e2 => e (.inl e2)))⟩; clear m2 s2))
    go_wp2_with fail
    all_goals
      go_ret
      exact ⟨ret_bool (by simp), _, H2.out⟩
  · obtain ⟨x, hx⟩ : ∃ x, hd (qof ls (i, o, l)) = x := ⟨_, rfl⟩
    obtain ⟨b, hb⟩ : ∃ b, (!(qof ls (i, o, l)).isEmpty) = b := ⟨_, rfl⟩
    have HX : Hid (hd (qof ls (i, o, l)) = x ∧ (!(qof ls (i, o, l)).isEmpty) = b) := ⟨hx, hb⟩
    clear hx hb
    go_enter Try.func16, Try.ntmps16
    go_wp2_with fail
    rw [← hW]
    clear hW
    refine (d_pop HD.out hG1.out (by omega) i o l HQ.out x b HX.out.1 HX.out.2).mono ?_
    rintro e u1 ⟨rfl, m1, s1⟩
    have I1 : OpIn (u1.alloc (.cells #[.int .i64 x.s, .int .i64 x.d, .int .i64 x.l, .int .u32 x.b] 27)) w.heap.size ⟨k, i, o, l, nr, vx⟩ := (HI.out.sans s1 (fun e => e (.inr rfl))).below (fresh _ _)
    have H1 : Hid (Duo (fun j => (G j ∨ j = w.heap.size) ∨ j = u1.heap.size) w0 (u1.alloc (.cells #[.int .i64 x.s, .int .i64 x.d, .int .i64 x.l, .int .u32 x.b] 27)) p r P L n (popT b ls.length) (c + 1) (upd (qof ls) (i, o, l) (qof ls (i, o, l)).tail) ls ∧ PkAt (u1.alloc (.cells #[.int .i64 x.s, .int .i64 x.d, .int .i64 x.l, .int .u32 x.b] 27)) u1.heap.size 0 x ∧ Sans (fun j => ¬ G j) w (u1.alloc (.cells #[.int .i64 x.s, .int .i64 x.d, .int .i64 x.l, .int .u32 x.b] 27)) ∧ ∀ j, (G j ∨ j = w.heap.size) ∨ j = u1.heap.size → j < (u1.alloc (.cells #[.int .i64 x.s, .int .i64 x.d, .int .i64 x.l, .int .u32 x.b] 27)).heap.size) :=
      ⟨(m1.wider (G' := fun j => (G j ∨ j = w.heap.size) ∨ j = u1.heap.size) (fun j e => e.imp id (fun e => by omega))).on (fresh _ _), PkAt.new u1 x, ((Sans.of_below HB.out).then (s1.mono (fun j e e2 => e (.inl e2)))).then (Sans.alloc _ _), fun j e => by
        simp
        rcases e with e | e
        · have := hG1.out j e; have := s1.size; omega
        · omega⟩
    obtain ⟨z0, z1, z2, z3, z4, z5, z6, z7, z8⟩ := I1
    simp only at z0 z1 z2 z3 z4 z5 z6 z7 z8
    clear m1 s1 HD q0 q1 q2 q3 q4 q5 q6 q7 q8
    go_wp2_with fail
    refine (d_refPop H1.out.1 H1.out.2.2.2 i o l x b HX.out.1 HX.out.2).mono ?_
    rintro e u2 ⟨rfl, m2, s2⟩
    obtain ⟨x0, x1, x2, x3⟩ := (H1.out.2.1.sans s2 (fun e => e (.inr rfl))).below (fresh u2 (.cells #[.int .i64 x.s, .int .i64 x.d, .int .i64 x.l, .int .u32 x.b] 27))
    have H2 : Hid (Duo G w0 (u2.alloc (.cells #[.int .i64 x.s, .int .i64 x.d, .int .i64 x.l, .int .u32 x.b] 27)) p r P L n (popL ls (i, o, l)).length (c + 1) (qof (popL ls (i, o, l))) (popL ls (i, o, l)) ∧ Sans (fun j => ¬ G j) w (u2.alloc (.cells #[.int .i64 x.s, .int .i64 x.d, .int .i64 x.l, .int .u32 x.b] 27))) := by
      refine ⟨?_, (H1.out.2.2.1.then (s2.mono (fun j e e2 => e (.inl (.inl e2))))).then (Sans.alloc _ _)⟩
      have e1 := (popped_both ls (i, o, l)).1
      have e2 := (popped_both ls (i, o, l)).2
      rw [HX.out.2] at e2
      rw [← e1, ← e2]
      exact (m2.wider (fun j e => .inl (.inl (.inl e)))).on (fresh _ _)
    clear m2 s2 z0 z1 z2 z3 z4 z5 z6 z7 z8
    go_wp2_with fail
    all_goals
      go_ret
      exact ⟨ret_bool (by simp), _, H2.out⟩
  · obtain ⟨x, hx⟩ : ∃ x, hd (qof ls (i, o, l)) = x := ⟨_, rfl⟩
    obtain ⟨b, hb⟩ : ∃ b, (!(qof ls (i, o, l)).isEmpty) = b := ⟨_, rfl⟩
    have HX : Hid (hd (qof ls (i, o, l)) = x ∧ (!(qof ls (i, o, l)).isEmpty) = b) := ⟨hx, hb⟩
    clear hx hb
    go_enter Try.func16, Try.ntmps16
    go_wp2_with fail
    rw [← hW]
    clear hW
    refine (d_pop HD.out hG1.out (by omega) i o l HQ.out x b HX.out.1 HX.out.2).mono ?_
    rintro e u1 ⟨rfl, m1, s1⟩
    have I1 : OpIn (u1.alloc (.cells #[.int .i64 x.s, .int .i64 x.d, .int .i64 x.l, .int .u32 x.b] 27)) w.heap.size ⟨k, i, o, l, nr, vx⟩ := (HI.out.sans s1 (fun e => e (.inr rfl))).below (fresh _ _)
    have H1 : Hid (Duo (fun j => (G j ∨ j = w.heap.size) ∨ j = u1.heap.size) w0 (u1.alloc (.cells #[.int .i64 x.s, .int .i64 x.d, .int .i64 x.l, .int .u32 x.b] 27)) p r P L n (popT b ls.length) (c + 1) (upd (qof ls) (i, o, l) (qof ls (i, o, l)).tail) ls ∧ PkAt (u1.alloc (.cells #[.int .i64 x.s, .int .i64 x.d, .int .i64 x.l, .int .u32 x.b] 27)) u1.heap.size 0 x ∧ Sans (fun j => ¬ G j) w (u1.alloc (.cells #[.int .i64 x.s, .int .i64 x.d, .int .i64 x.l, .int .u32 x.b] 27)) ∧ ∀ j, (G j ∨ j = w.heap.size) ∨ j = u1.heap.size → j < (u1.alloc (.cells #[.int .i64 x.s, .int .i64 x.d, .int .i64 x.l, .int .u32 x.b] 27)).heap.size) :=
      ⟨(m1.wider (G' := fun j => (G j ∨ j = w.heap.size) ∨ j = u1.heap.size) (fun j e => e.imp id (fun e => by omega))).on (fresh _ _), PkAt.new u1 x, ((Sans.of_below HB.out).then (s1.mono (fun j e e2 => e (.inl e2)))).then (Sans.alloc _ _), fun j e => by
        simp
        rcases e with e | e
        · have := hG1.out j e; have := s1.size; omega
        · omega⟩
    obtain ⟨z0, z1, z2, z3, z4, z5, z6, z7, z8⟩ := I1
    simp only at z0 z1 z2 z3 z4 z5 z6 z7 z8
    clear m1 s1 HD q0 q1 q2 q3 q4 q5 q6 q7 q8
    go_wp2_with fail
    refine (d_refPop H1.out.1 H1.out.2.2.2 i o l x b HX.out.1 HX.out.2).mono ?_
    rintro e u2 ⟨rfl, m2, s2⟩
    obtain ⟨x0, x1, x2, x3⟩ := (H1.out.2.1.sans s2 (fun e => e (.inr rfl))).below (fresh u2 (.cells #[.int .i64 x.s, .int .i64 x.d, .int .i64 x.l, .int .u32 x.b] 27))
    have H2 : Hid (Duo G w0 (u2.alloc (.cells #[.int .i64 x.s, .int .i64 x.d, .int .i64 x.l, .int .u32 x.b] 27)) p r P L n (popL ls (i, o, l)).length (c + 1) (qof (popL ls (i, o, l))) (popL ls (i, o, l)) ∧ Sans (fun j => ¬ G j) w (u2.alloc (.cells #[.int .i64 x.s, .int .i64 x.d, .int .i64 x.l, .int .u32 x.b] 27))) := by
      refine ⟨?_, (H1.out.2.2.1.then (s2.mono (fun j e e2 => e (.inl (.inl e2))))).then (Sans.alloc _ _)⟩
      have e1 := (popped_both ls (i, o, l)).1
      have e2 := (popped_both ls (i, o, l)).2
      rw [HX.out.2] at e2
      rw [← e1, ← e2]
      exact (m2.wider (fun j e => .inl (.inl (.inl e)))).on (fresh _ _)
    clear m2 s2 z0 z1 z2 z3 z4 z5 z6 z7 z8
    go_wp2_with fail
    all_goals
      go_ret
      exact ⟨ret_bool (by simp), _, H2.out⟩
  · obtain ⟨x, hx⟩ : ∃ x, hd (qof ls (i, o, l)) = x := ⟨_, rfl⟩
    obtain ⟨b, hb⟩ : ∃ b, (!(qof ls (i, o, l)).isEmpty) = b := ⟨_, rfl⟩
    have HX : Hid (hd (qof ls (i, o, l)) = x ∧ (!(qof ls (i, o, l)).isEmpty) = b) := ⟨hx, hb⟩
    clear hx hb
    go_enter Try.func16, Try.ntmps16
    go_wp2_with fail
    rw [← hW]
    clear hW
    refine (d_head HD.out i o l HQ.out x b HX.out.1 HX.out.2).mono ?_
    rintro e u1 ⟨rfl, b1⟩
    have I1 : OpIn (u1.alloc (.cells #[.int .i64 x.s, .int .i64 x.d, .int .i64 x.l, .int .u32 x.b] 27)) w.heap.size ⟨k, i, o, l, nr, vx⟩ := (HI.out.below b1).below (fresh _ _)
    have H1 : Hid (Below W.heap.size W (u1.alloc (.cells #[.int .i64 x.s, .int .i64 x.d, .int .i64 x.l, .int .u32 x.b] 27)) ∧ PkAt (u1.alloc (.cells #[.int .i64 x.s, .int .i64 x.d, .int .i64 x.l, .int .u32 x.b] 27)) u1.heap.size 0 x) := ⟨later b1 (fresh _ _), PkAt.new u1 x⟩
    obtain ⟨z0, z1, z2, z3, z4, z5, z6, z7, z8⟩ := I1
    simp only at z0 z1 z2 z3 z4 z5 z6 z7 z8
    clear b1 q0 q1 q2 q3 q4 q5 q6 q7 q8
    go_wp2_with fail
    refine (d_refHead (HD.out.on H1.out.1) i o l x b HX.out.1 HX.out.2).mono ?_
    rintro e u2 ⟨rfl, b2⟩
    obtain ⟨x0, x1, x2, x3⟩ := (H1.out.2.below b2).below (fresh u2 (.cells #[.int .i64 x.s, .int .i64 x.d, .int .i64 x.l, .int .u32 x.b] 27))
    have H2 : Hid (Duo G w0 (u2.alloc (.cells #[.int .i64 x.s, .int .i64 x.d, .int .i64 x.l, .int .u32 x.b] 27)) p r P L n ls.length (c + 1) (qof ls) ls ∧ Sans (fun j => ¬ G j) w (u2.alloc (.cells #[.int .i64 x.s, .int .i64 x.d, .int .i64 x.l, .int .u32 x.b] 27))) :=
      ⟨(((HD.out.on H1.out.1).on b2).wider (G' := G) (fun j e => .inl (.inl e))).mono.on (fresh _ _), Sans.of_below (later (later (later HB.out H1.out.1) b2) (fresh _ _))⟩
    clear b2 z0 z1 z2 z3 z4 z5 z6 z7 z8
    go_wp2_with fail
    all_goals
      go_ret
      exact ⟨ret_bool (by simp), _, H2.out⟩
end Go.Proofs.Ytpbeldcaiceakaa
