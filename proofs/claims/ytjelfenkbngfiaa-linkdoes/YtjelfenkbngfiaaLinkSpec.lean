/-
  What package link must come to, as one statement about a predicate on memory; the laws' walks lean on it, the program's own functions are held against it. Conditions: none; nothing is claimed here.
-/
import Derived.Test.YtjelfenkbngfiaaRefLink4
import Derived.Test.YtjelfenkbngfiaaHeavy
namespace Go.Proofs.Ytjelfenkbngfiaa
open Go.ChangeShapes Go.WideShapes Go.ChangeAt Go.RowKit
set_option linter.unusedVariables false

/-- rows that a call has told: new since w, the header's block apart from theirs, all may be written -/
structure Told (w w' : World) (a : Option Addr) (n : Nat) (rs : List RowV) : Prop where
  lines : Lines w' a n rs
  head : ∀ ad, a = some ad → w.heap.size ≤ ad.block
  rows : ∀ r ∈ rs, ∀ ad, r.a = some ad → w.heap.size ≤ ad.block ∧ (∀ j, w'.frozen? ⟨ad.block, j, none⟩ = false) ∧ ∀ ah, a = some ah → ad.block ≠ ah.block

structure LinkSpec (L : World → (Nat → Prop) → Nat → Nat → List (List Nat) → Prop) : Prop where
  foot : ∀ {w : World} {F : Nat → Prop} {p room : Nat} {ts : List (List Nat)}, L w F p room ts → ∀ k, F k → k < w.heap.size
  size : ∀ {w : World} {F : Nat → Prop} {p room : Nat} {ts : List (List Nat)}, L w F p room ts → 1 ≤ room ∧ room ≤ 64 ∧ ts.length ≤ room
  sans : ∀ {w w' : World} {F G : Nat → Prop} {p room : Nat} {ts : List (List Nat)}, L w F p room ts → Sans G w w' → (∀ k, F k → ¬ G k) → L w' F p room ts
  new_good : ∀ (room : Nat) (w : World), 1 ≤ room ∧ room ≤ 64 → Calls Try.prog 12 #[.int .i64 room] w fun e w' => ∃ p F, e = .returned (.pointer (some ⟨p, 0, none⟩)) ∧ L w' F p room [] ∧ Below w.heap.size w w' ∧ ∀ k, F k → w.heap.size ≤ k
  new_bad : ∀ (z : Int) (w : World), -9223372036854775808 ≤ z ∧ z ≤ 9223372036854775807 → (z < 1 ∨ 64 < z) → Calls Try.prog 12 #[.int .i64 z] w fun e w' => e = .returned (.pointer none) ∧ Below w.heap.size w w'
  send_full : ∀ {w : World} {F : Nat → Prop} {p room : Nat} {ts : List (List Nat)} (b : Option Addr) (len bc : Nat) (l : List Nat), L w F p room ts → room ≤ ts.length → Octs w b len l → (b = none → len = 0 ∧ bc = 0) → len ≤ 1000000 →
    Calls Try.prog 14 #[.pointer (some ⟨p, 0, none⟩), .slice b len bc] w fun e w' => ∃ F', e = .returned (.bool false) ∧ L w' F' p room ts ∧ Grows F w F' w'
  send_room : ∀ {w : World} {F : Nat → Prop} {p room : Nat} {ts : List (List Nat)} (b : Option Addr) (len bc : Nat) (l : List Nat), L w F p room ts → ts.length < room → Octs w b len l → (b = none → len = 0 ∧ bc = 0) → len ≤ 1000000 →
    Calls Try.prog 14 #[.pointer (some ⟨p, 0, none⟩), .slice b len bc] w fun e w' => ∃ F', e = .returned (.bool true) ∧ L w' F' p room (ts ++ [l]) ∧ Grows F w F' w'
  take_none : ∀ {w : World} {F : Nat → Prop} {p room : Nat} {ts : List (List Nat)} (z : Int), L w F p room ts → (-9223372036854775808 ≤ z ∧ z ≤ 9223372036854775807) → (z < 0 ∨ (ts.length : Int) ≤ z) →
    Calls Try.prog 15 #[.pointer (some ⟨p, 0, none⟩), .int .i64 z] w fun e w' => ∃ F' a n c, e = .returned (.tuple #[.slice a n c, .bool false]) ∧ L w' F' p room ts ∧ Grows F w F' w' ∧ Octs w' a n []
  take_some : ∀ {w : World} {F : Nat → Prop} {p room : Nat} {ts : List (List Nat)} (i : Nat), L w F p room ts → i < ts.length →
    Calls Try.prog 15 #[.pointer (some ⟨p, 0, none⟩), .int .i64 i] w fun e w' => ∃ F' a n c, e = .returned (.tuple #[.slice a n c, .bool true]) ∧ L w' F' p room (ts.eraseIdx i) ∧ Grows F w F' w' ∧ Octs w' a n (ts.getD i []) ∧ ∀ ad, a = some ad → F ad.block ∨ w.heap.size ≤ ad.block
  twice_no : ∀ {w : World} {F : Nat → Prop} {p room : Nat} {ts : List (List Nat)} (z : Int), L w F p room ts → (-9223372036854775808 ≤ z ∧ z ≤ 9223372036854775807) → (z < 0 ∨ (ts.length : Int) ≤ z ∨ room ≤ ts.length) →
    Calls Try.prog 16 #[.pointer (some ⟨p, 0, none⟩), .int .i64 z] w fun e w' => ∃ F', e = .returned (.bool false) ∧ L w' F' p room ts ∧ Grows F w F' w'
  twice_yes : ∀ {w : World} {F : Nat → Prop} {p room : Nat} {ts : List (List Nat)} (i : Nat), L w F p room ts → i < ts.length → ts.length < room →
    Calls Try.prog 16 #[.pointer (some ⟨p, 0, none⟩), .int .i64 i] w fun e w' => ∃ F', e = .returned (.bool true) ∧ L w' F' p room (ts ++ [ts.getD i []]) ∧ Grows F w F' w'
  bend_no : ∀ {w : World} {F : Nat → Prop} {p room : Nat} {ts : List (List Nat)} (z t : Int) (x : Nat), L w F p room ts → (-9223372036854775808 ≤ z ∧ z ≤ 9223372036854775807) → (-9223372036854775808 ≤ t ∧ t ≤ 9223372036854775807) → x < 256 → (z < 0 ∨ (ts.length : Int) ≤ z ∨ t < 0 ∨ x = 0 ∨ ∃ i : Nat, z = i ∧ i < ts.length ∧ ts.getD i [] = []) →
    Calls Try.prog 17 #[.pointer (some ⟨p, 0, none⟩), .int .i64 z, .int .i64 t, .int .u8 x] w fun e w' => ∃ F', e = .returned (.bool false) ∧ L w' F' p room ts ∧ Grows F w F' w'
  bend_yes : ∀ {w : World} {F : Nat → Prop} {p room : Nat} {ts : List (List Nat)} (i t x : Nat), L w F p room ts → i < ts.length → ts.getD i [] ≠ [] → x ≠ 0 → x < 256 → t ≤ 9223372036854775807 →
    Calls Try.prog 17 #[.pointer (some ⟨p, 0, none⟩), .int .i64 i, .int .i64 t, .int .u8 x] w fun e w' => ∃ F', e = .returned (.bool true) ∧ L w' F' p room (ts.set i ((ts.getD i []).set (t % (ts.getD i []).length) ((ts.getD i []).getD (t % (ts.getD i []).length) 0 ^^^ x))) ∧ Grows F w F' w'
  all : ∀ {w : World} {F : Nat → Prop} {p room : Nat} {ts : List (List Nat)}, L w F p room ts →
    Calls Try.prog 13 #[.pointer (some ⟨p, 0, none⟩)] w fun e w' => ∃ a c rs, e = .returned (.slice a ts.length c) ∧ Told w w' a ts.length rs ∧ texts rs = ts ∧ ts.length ≤ c ∧ c ≤ 9223372036854775807 ∧ L w' F p room ts ∧ Below w.heap.size w w'
theorem LinkSpec.below {L : World → (Nat → Prop) → Nat → Nat → List (List Nat) → Prop} (S : LinkSpec L) {w w' : World} {F : Nat → Prop} {p room : Nat} {ts : List (List Nat)} (h : L w F p room ts) (k : Below w.heap.size w w') : L w' F p room ts :=
  S.sans h (Sans.of_below (F := fun _ => False) k) (fun _ _ e => e)
/-- the call's own link, new since w0: what was there then is as it was -/
def Mine (L : World → (Nat → Prop) → Nat → Nat → List (List Nat) → Prop) (w0 w : World) (p room : Nat) (ts : List (List Nat)) : Prop := ∃ F, L w F p room ts ∧ (∀ k, F k → w0.heap.size ≤ k) ∧ Below w0.heap.size w0 w
theorem Mine.step {L : World → (Nat → Prop) → Nat → Nat → List (List Nat) → Prop} {w0 w w' : World} {p room : Nat} {ts' : List (List Nat)} {F F' : Nat → Prop} (hb : Below w0.heap.size w0 w) (hF : ∀ k, F k → w0.heap.size ≤ k) (h : L w' F' p room ts') (hg : Grows F w F' w') : Mine L w0 w' p room ts' :=
  ⟨F', h, fun k hk => (hg.2 k hk).elim (hF k) (fun e => Nat.le_trans hb.size e), hb.trans (hg.1.below hb.size hF)⟩
theorem Mine.on {L : World → (Nat → Prop) → Nat → Nat → List (List Nat) → Prop} (S : LinkSpec L) {w0 w w' : World} {p room : Nat} {ts : List (List Nat)} (h : Mine L w0 w p room ts) (k : Below w.heap.size w w') : Mine L w0 w' p room ts := by
  obtain ⟨F, h1, h2, h3⟩ := h
  exact ⟨F, S.below h1 k, h2, later h3 k⟩
end Go.Proofs.Ytjelfenkbngfiaa
