/-
  The program's rings and the document's side by side: what each call comes to, and that both answer alike. Conditions: none but that both are such.
-/
import Derived.Test.YtpbeldcaiceakaaRefRing5
namespace Go.Proofs.Ytpbeldcaiceakaa
open Go.ChangeShapes Go.WideShapes Go.ChangeAt Go.RowKit
set_option linter.unusedVariables false

/-- both are the call's own, apart from each other and from blocks of G -/
def Duo (G : Nat → Prop) (w0 w : World) (p r P L n t c : Nat) (Qs : Pl → List Pk) (ls : List Ent) : Prop :=
  ∃ F H, RAt w F p P L n t c Qs ∧ RefAt w H r P L n ls ∧ (∀ k, F k → w0.heap.size ≤ k ∧ ¬ G k) ∧ (∀ k, H k → w0.heap.size ≤ k ∧ ¬ G k) ∧ (∀ k, F k → ¬ H k) ∧ Below w0.heap.size w0 w
def pushL (b : Bool) (ls : List Ent) (q : Pl) (x : Pk) : List Ent := if b then ls ++ [(q, x)] else ls
def popL (ls : List Ent) (q : Pl) : List Ent := match fidx ls q with | some j => ls.eraseIdx j | none => ls
theorem pushed_both (b : Bool) (ls : List Ent) (q : Pl) (x : Pk) : pushQ b (qof ls) q x = qof (pushL b ls q x) ∧ pushT b ls.length = (pushL b ls q x).length := by
  cases b with
  | false => exact ⟨rfl, rfl⟩
  | true => exact ⟨(qof_push ls q x).symm, by show ls.length + 1 = (ls ++ [(q, x)]).length; rw [List.length_append]; rfl⟩
theorem popped_both (ls : List Ent) (q : Pl) : upd (qof ls) q (qof ls q).tail = qof (popL ls q) ∧ popT (!(qof ls q).isEmpty) ls.length = (popL ls q).length := by
  unfold popL
  cases hf : fidx ls q with
  | none =>
    have hq := fidx_none hf
    refine ⟨?_, by rw [hq]; rfl⟩
    have := upd_self (qof ls) q
    rw [hq] at this ⊢
    exact this
  | some j =>
    obtain ⟨x, h1, h2, h3⟩ := fidx_some hf
    refine ⟨h3.symm, ?_⟩
    rw [h2]
    show ls.length - 1 = (ls.eraseIdx j).length
    rw [List.length_eraseIdx, if_pos (fidx_lt hf)]
section
variable {G : Nat → Prop} {w0 w w' : World} {p r P L n t c : Nat} {Qs : Pl → List Pk} {ls : List Ent}
theorem Duo.on (m : Duo G w0 w p r P L n t c Qs ls) (k : Below w.heap.size w w') : Duo G w0 w' p r P L n t c Qs ls := by
  obtain ⟨F, H, h1, h2, h3, h4, h5, h6⟩ := m
  exact ⟨F, H, h1.below k, h2.below k, h3, h4, h5, later h6 k⟩
theorem Duo.below (m : Duo G w0 w p r P L n t c Qs ls) : Below w0.heap.size w0 w := by
  obtain ⟨F, H, h1, h2, h3, h4, h5, h6⟩ := m
  exact h6
theorem Duo.wider {G' : Nat → Prop} (m : Duo G w0 w p r P L n t c Qs ls) (h : ∀ k, G' k → G k ∨ w.heap.size ≤ k) : Duo G' w0 w p r P L n t c Qs ls := by
  obtain ⟨F, H, h1, h2, h3, h4, h5, h6⟩ := m
  exact ⟨F, H, h1, h2, fun k hk => ⟨(h3 k hk).1, fun e => (h k e).elim (h3 k hk).2 (fun e => by have := h1.foot k hk; omega)⟩, fun k hk => ⟨(h4 k hk).1, fun e => (h k e).elim (h4 k hk).2 (fun e => by have := h2.foot k hk; omega)⟩, h5, h6⟩
theorem Duo.len_le (m : Duo G w0 w p r P L n t c Qs ls) (q : Pl) : (Qs q).length ≤ c := by
  obtain ⟨F, H, ⟨G, pp, mb, S, E, V, sl, h, _⟩, _⟩ := m
  have := (h.held q).1
  have := h.len q
  omega
theorem d_len (m : Duo G w0 w p r P L n t c Qs ls) (i o l : Int) (hq : Wf (i, o, l)) (j : Nat) (hj : (Qs (i, o, l)).length = j) :
    Calls Try.prog 11 #[.pointer (some ⟨p, 0, none⟩), .int .i64 i, .int .i64 o, .int .i64 l] w fun e w' => e = .returned (.int .i64 j) ∧ w' = w := by
  obtain ⟨F, H, h1, h2, h3, h4, h5, h6⟩ := m
  exact len_any h1 i o l hq j hj
theorem d_refLen (m : Duo G w0 w p r P L n t c Qs ls) (i o l : Int) (j : Nat) (hj : (qof ls (i, o, l)).length = j) :
    Calls Try.prog 17 #[.pointer (some ⟨r, 0, none⟩), .int .i64 i, .int .i64 o, .int .i64 l] w fun e w' => e = .returned (.int .i64 j) ∧ Below w.heap.size w w' := by
  obtain ⟨F, H, h1, h2, h3, h4, h5, h6⟩ := m
  exact refLen_any h2 i o l j hj
theorem d_all (m : Duo G w0 w p r P L n t c Qs ls) (hc : c < 1000) (i o l : Int) (hq : Wf (i, o, l)) (xs : List Pk) (hxs : Qs (i, o, l) = xs) :
    Calls Try.prog 19 #[.pointer (some ⟨p, 0, none⟩), .int .i64 i, .int .i64 o, .int .i64 l] w fun e w' => ∃ v, e = .returned v ∧ PRow w' w.heap.size v xs ∧ Below w.heap.size w w' := by
  obtain ⟨F, H, h1, h2, h3, h4, h5, h6⟩ := m
  exact all_any h1 hc i o l hq xs hxs
theorem d_refAll (m : Duo G w0 w p r P L n t c Qs ls) (i o l : Int) (xs : List Pk) (hxs : qof ls (i, o, l) = xs) :
    Calls Try.prog 20 #[.pointer (some ⟨r, 0, none⟩), .int .i64 i, .int .i64 o, .int .i64 l] w fun e w' => ∃ v, e = .returned v ∧ PRow w' w.heap.size v xs ∧ Below w.heap.size w w' := by
  obtain ⟨F, H, h1, h2, h3, h4, h5, h6⟩ := m
  exact refAll_any h2 i o l xs hxs
theorem d_head (m : Duo G w0 w p r P L n t c Qs ls) (i o l : Int) (hq : Wf (i, o, l)) (x : Pk) (b : Bool) (hx : hd (Qs (i, o, l)) = x) (hb : (!(Qs (i, o, l)).isEmpty) = b) :
    Calls Try.prog 10 #[.pointer (some ⟨p, 0, none⟩), .int .i64 i, .int .i64 o, .int .i64 l] w fun e w' => e = .returned (.tuple #[.agg #[.int .i64 x.s, .int .i64 x.d, .int .i64 x.l, .int .u32 x.b], .bool b]) ∧ Below w.heap.size w w' := by
  obtain ⟨F, H, h1, h2, h3, h4, h5, h6⟩ := m
  exact head_any h1 i o l hq x b hx hb
theorem d_refHead (m : Duo G w0 w p r P L n t c Qs ls) (i o l : Int) (x : Pk) (b : Bool) (hx : hd (qof ls (i, o, l)) = x) (hb : (!(qof ls (i, o, l)).isEmpty) = b) :
    Calls Try.prog 27 #[.pointer (some ⟨r, 0, none⟩), .int .i64 i, .int .i64 o, .int .i64 l] w fun e w' => e = .returned (.tuple #[.agg #[.int .i64 x.s, .int .i64 x.d, .int .i64 x.l, .int .u32 x.b], .bool b]) ∧ Below w.heap.size w w' := by
  obtain ⟨F, H, h1, h2, h3, h4, h5, h6⟩ := m
  exact refHead_any h2 i o l x b hx hb
/-- the program's have turned -/
theorem Duo.first {F F' H : Nat → Prop} {t' c' : Nat} {Qs' : Pl → List Pk} (h1 : RAt w F p P L n t c Qs) (h2 : RefAt w H r P L n ls) (h3 : ∀ k, F k → w0.heap.size ≤ k ∧ ¬ G k) (h4 : ∀ k, H k → w0.heap.size ≤ k ∧ ¬ G k) (h5 : ∀ k, F k → ¬ H k) (h6 : Below w0.heap.size w0 w) (hG : ∀ k, G k → k < w.heap.size)
    (hR : RAt w' F' p P L n t' c' Qs') (hg : Grows F w F' w') : Duo G w0 w' p r P L n t' c' Qs' ls ∧ Sans (fun k => ¬ G k) w w' :=
  ⟨⟨F', H, hR, h2.sans hg.1 (fun k hk e => h5 k e hk), fun k hk => (hg.2 k hk).elim (h3 k) (fun e => ⟨Nat.le_trans h6.size e, fun e2 => by have := hG k e2; omega⟩), h4, fun k hk e => (hg.2 k hk).elim (fun e2 => h5 k e2 e) (fun e2 => by have := h2.foot k e; omega), h6.trans (hg.1.below h6.size (fun k hk => (h3 k hk).1))⟩, hg.1.mono (fun k hk => (h3 k hk).2)⟩
/-- the document's have turned -/
theorem Duo.second {F H H' : Nat → Prop} {ls' : List Ent} (h1 : RAt w F p P L n t c Qs) (h2 : RefAt w H r P L n ls) (h3 : ∀ k, F k → w0.heap.size ≤ k ∧ ¬ G k) (h4 : ∀ k, H k → w0.heap.size ≤ k ∧ ¬ G k) (h5 : ∀ k, F k → ¬ H k) (h6 : Below w0.heap.size w0 w) (hG : ∀ k, G k → k < w.heap.size)
    (hR : RefAt w' H' r P L n ls') (hg : Grows H w H' w') : Duo G w0 w' p r P L n t c Qs ls' ∧ Sans (fun k => ¬ G k) w w' :=
  ⟨⟨F, H', h1.sans hg.1 (fun k hk e => h5 k hk e), hR, h3, fun k hk => (hg.2 k hk).elim (h4 k) (fun e => ⟨Nat.le_trans h6.size e, fun e2 => by have := hG k e2; omega⟩), fun k hk e => (hg.2 k e).elim (fun e2 => h5 k hk e2) (fun e2 => by have := h1.foot k hk; omega), h6.trans (hg.1.below h6.size (fun k hk => (h4 k hk).1))⟩, hg.1.mono (fun k hk => (h4 k hk).2)⟩
theorem d_push (m : Duo G w0 w p r P L n t c Qs ls) (hG : ∀ k, G k → k < w.heap.size) (hc : c < 1000) (i o l : Int) (hq : Wf (i, o, l)) (x : Pk) (b : Bool) (hb : takes P L n t (i, o, l) = b) :
    Calls Try.prog 12 #[.pointer (some ⟨p, 0, none⟩), .int .i64 i, .int .i64 o, .int .i64 l, .agg #[.int .i64 x.s, .int .i64 x.d, .int .i64 x.l, .int .u32 x.b]] w fun e w' => e = .returned (.bool b) ∧ Duo G w0 w' p r P L n (pushT b t) (c + 1) (pushQ b Qs (i, o, l) x) ls ∧ Sans (fun k => ¬ G k) w w' := by
  obtain ⟨F, H, h1, h2, h3, h4, h5, h6⟩ := m
  exact (rpush_any h1 hc i o l hq x b hb).mono fun e w' ⟨he, F', hR, hg⟩ => ⟨he, Duo.first h1 h2 h3 h4 h5 h6 hG hR hg⟩
theorem d_pop (m : Duo G w0 w p r P L n t c Qs ls) (hG : ∀ k, G k → k < w.heap.size) (hc : c < 1000) (i o l : Int) (hq : Wf (i, o, l)) (x : Pk) (b : Bool) (hx : hd (Qs (i, o, l)) = x) (hb : (!(Qs (i, o, l)).isEmpty) = b) :
    Calls Try.prog 14 #[.pointer (some ⟨p, 0, none⟩), .int .i64 i, .int .i64 o, .int .i64 l] w fun e w' => e = .returned (.tuple #[.agg #[.int .i64 x.s, .int .i64 x.d, .int .i64 x.l, .int .u32 x.b], .bool b]) ∧ Duo G w0 w' p r P L n (popT b t) (c + 1) (upd Qs (i, o, l) (Qs (i, o, l)).tail) ls ∧ Sans (fun k => ¬ G k) w w' := by
  obtain ⟨F, H, h1, h2, h3, h4, h5, h6⟩ := m
  exact (rpop_any h1 hc i o l hq x b hx hb).mono fun e w' ⟨he, hR, hs⟩ => ⟨he, Duo.first h1 h2 h3 h4 h5 h6 hG hR ⟨hs, fun k hk => .inl hk⟩⟩
theorem d_refPush (m : Duo G w0 w p r P L n t c Qs ls) (hG : ∀ k, G k → k < w.heap.size) (i o l : Int) (x : Pk) (b : Bool) (hb : takes P L n ls.length (i, o, l) = b) :
    Calls Try.prog 28 #[.pointer (some ⟨r, 0, none⟩), .int .i64 i, .int .i64 o, .int .i64 l, .agg #[.int .i64 x.s, .int .i64 x.d, .int .i64 x.l, .int .u32 x.b]] w fun e w' => e = .returned (.bool b) ∧ Duo G w0 w' p r P L n t c Qs (pushL b ls (i, o, l) x) ∧ Sans (fun k => ¬ G k) w w' := by
  have mm := m
  obtain ⟨F, H, h1, h2, h3, h4, h5, h6⟩ := m
  cases b with
  | false => exact (refPush_no h2 i o l x hb).mono fun e w' ⟨he, hbel⟩ => ⟨he, mm.on hbel, Sans.of_below hbel⟩
  | true => exact (refPush_yes h2 i o l x hb).mono fun e w' ⟨he, H', hR, hg⟩ => ⟨he, Duo.second h1 h2 h3 h4 h5 h6 hG hR hg⟩
theorem d_refPop (m : Duo G w0 w p r P L n t c Qs ls) (hG : ∀ k, G k → k < w.heap.size) (i o l : Int) (x : Pk) (b : Bool) (hx : hd (qof ls (i, o, l)) = x) (hb : (!(qof ls (i, o, l)).isEmpty) = b) :
    Calls Try.prog 26 #[.pointer (some ⟨r, 0, none⟩), .int .i64 i, .int .i64 o, .int .i64 l] w fun e w' => e = .returned (.tuple #[.agg #[.int .i64 x.s, .int .i64 x.d, .int .i64 x.l, .int .u32 x.b], .bool b]) ∧ Duo G w0 w' p r P L n t c Qs (popL ls (i, o, l)) ∧ Sans (fun k => ¬ G k) w w' := by
  have mm := m
  obtain ⟨F, H, h1, h2, h3, h4, h5, h6⟩ := m
  cases hf : fidx ls (i, o, l) with
  | none =>
    have hq := fidx_none hf
    rw [hq] at hx hb
    subst hx hb
    have e : popL ls (i, o, l) = ls := by unfold popL; rw [hf]
    rw [e]
    exact (refPop_none h2 i o l hf).mono fun e w' ⟨he, hbel⟩ => ⟨he, mm.on hbel, Sans.of_below hbel⟩
  | some j =>
    obtain ⟨y, hj, hq, _⟩ := fidx_some hf
    rw [hq] at hx hb
    subst hx hb
    have e : popL ls (i, o, l) = ls.eraseIdx j := by unfold popL; rw [hf]
    rw [e]
    exact (refPop_some h2 i o l j y hf hj).mono fun e w' ⟨he, H', hR, hg⟩ => ⟨he, Duo.second h1 h2 h3 h4 h5 h6 hG hR hg⟩
end
end Go.Proofs.Ytpbeldcaiceakaa
