/-
  Contracts and plain facts that the walks lean on (CrcMath, Octets, Sans, Pkt, HostMath, PoolMath). Conditions: none but those that each states.
-/
import Derived.Laws.BitsAllLaws
import Derived.Test.YtniicgbkeifnjaaGreatDoorRows
import Derived.WalkKit
import Derived.ProofKit
import Derived.OpenShut
import Derived.Lib.SlBytesConst
import Derived.Laws.IdiomStrings
import Derived.WalkSpells
import Derived.WalkLawsBesides
import Derived.Laws.AppendOwnNone
import Derived.ArgAppend
import Derived.Deep.RegionLaw
import Derived.Deep.RegionWith
import Derived.OwnWalk
import Derived.Deep.OwnRows
import Derived.BigQuiet
namespace Go.Proofs.YtniicgbkeifnjaaGreatDoor.Crc
def up (n : Nat) : Nat := if n < 32768 then 2 * n else (2 * n - 65536) ^^^ 4129
def ups : Nat → Nat → Nat
  | 0, n => n
  | k + 1, n => up (ups k n)
def step (r c : Nat) : Nat := ups 8 (r ^^^ c * 256)
def sumFrom (r : Nat) (l : List Nat) : Nat := l.foldl step r
def crc (l : List Nat) : Nat := sumFrom 65535 l
def Oct (l : List Nat) : Prop := ∀ x ∈ l, x < 256
theorem xor_lt {a b : Nat} (ha : a < 65536) (hb : b < 65536) : a ^^^ b < 65536 := Nat.xor_lt_two_pow (n := 16) ha hb
theorem up_lt {n : Nat} (h : n < 65536) : up n < 65536 := by
  unfold up; split
  · omega
  · exact xor_lt (by omega) (by omega)
theorem ups_lt {k n : Nat} (h : n < 65536) : ups k n < 65536 := by
  induction k with
  | zero => exact h
  | succ k ih => exact up_lt ih
theorem step_lt {r c : Nat} (h : r < 65536) (hc : c < 256) : step r c < 65536 := ups_lt (xor_lt h (by omega))
theorem sumFrom_nil (r : Nat) : sumFrom r [] = r := rfl
theorem sumFrom_cons (r c : Nat) (l : List Nat) : sumFrom r (c :: l) = sumFrom (step r c) l := by unfold sumFrom; rw [List.foldl_cons]
theorem Oct.head {c : Nat} {l : List Nat} (o : Oct (c :: l)) : c < 256 := o c List.mem_cons_self
theorem Oct.tail {c : Nat} {l : List Nat} (o : Oct (c :: l)) : Oct l := fun x hx => o x (List.mem_cons_of_mem _ hx)
theorem sumFrom_lt (l : List Nat) : ∀ {r : Nat}, r < 65536 → Oct l → sumFrom r l < 65536 := by
  induction l with
  | nil => intro r h _; rw [sumFrom_nil]; exact h
  | cons c l ih => intro r h o; rw [sumFrom_cons]; exact ih (step_lt h o.head) o.tail
theorem crc_lt {l : List Nat} (o : Oct l) : crc l < 65536 := sumFrom_lt l (by omega) o
theorem x4 (a b c d : Nat) : (a ^^^ b) ^^^ (c ^^^ d) = (a ^^^ c) ^^^ (b ^^^ d) := by
  rw [Nat.xor_assoc, Nat.xor_assoc, ← Nat.xor_assoc b, ← Nat.xor_assoc c, Nat.xor_comm b c]
theorem odd_xor (m : Nat) : (2 * m) ^^^ 4129 = 2 * (m ^^^ 2064) + 1 := by
  apply Nat.eq_of_testBit_eq
  intro i
  rw [Nat.testBit_xor]
  cases i with
  | zero => simp [Nat.testBit_zero]
  | succ i => simp [Nat.testBit_succ]; rw [show (2 * (m ^^^ 2064) + 1) / 2 = m ^^^ 2064 by omega]; simp [Nat.testBit_xor]
theorem up_zero {n : Nat} (h : n < 65536) (e : up n = 0) : n = 0 := by
  unfold up at e; split at e
  · omega
  · rw [show 2 * n - 65536 = 2 * (n - 32768) by omega, odd_xor] at e; omega
theorem ups_zero {k n : Nat} (h : n < 65536) (e : ups k n = 0) : n = 0 := by
  induction k with
  | zero => exact e
  | succ k ih => exact ih (up_zero (ups_lt h) e)
theorem sumFrom_append (r : Nat) (l m : List Nat) : sumFrom r (l ++ m) = sumFrom (sumFrom r l) m := List.foldl_append
theorem crc_none : crc [] = 65535 := rfl
theorem crc_snoc (l : List Nat) (c : Nat) : crc (l ++ [c]) = step (crc l) c := by unfold crc; rw [sumFrom_append, sumFrom_cons, sumFrom_nil]
theorem getD_mem {l : List Nat} {k : Nat} (h : k < l.length) : l.getD k 0 = l[k] := by rw [List.getD_eq_getElem?_getD, List.getElem?_eq_getElem h]; rfl
end Go.Proofs.YtniicgbkeifnjaaGreatDoor.Crc
namespace Go.Proofs.YtniicgbkeifnjaaGreatDoor
open Go.ChangeShapes Go.WideShapes Go.ChangeAt Go.RowKit
set_option linter.unusedVariables false
set_option maxRecDepth 100000
theorem ret_bool {a b : Bool} (h : a = b) : Ending.returned (.bool a) = .returned (.bool b) := by rw [h]
theorem ret_int {k : IntKind} {a b : Int} (h : a = b) : Ending.returned (.int k a) = .returned (.int k b) := by rw [h]
def Octs (w : World) (a : Option Addr) (len : Nat) (l : List Nat) : Prop :=
  l.length = len ∧ len ≤ maxLen ∧ Crc.Oct l ∧ (len = 0 ∨ ∃ b off, a = some ⟨b, off, none⟩ ∧ b < w.heap.size ∧ ∀ i, i < len → w.cell? ⟨b, off + i, none⟩ = some (.int .u8 (l.getD i 0 : Nat)))
theorem Octs.below {w w' : World} {a : Option Addr} {len : Nat} {l : List Nat} (h : Octs w a len l) (hb : Below w.heap.size w w') : Octs w' a len l := by
  obtain ⟨h1, h2, h3, h4⟩ := h
  refine ⟨h1, h2, h3, ?_⟩
  rcases h4 with h4 | ⟨b, off, ha, hlt, hc⟩
  · exact .inl h4
  · exact .inr ⟨b, off, ha, Nat.lt_of_lt_of_le hlt hb.size, fun i hi => (hb.cell (p := ⟨b, off + i, none⟩) hlt).trans (hc i hi)⟩
theorem Octs.empty {w : World} {a : Option Addr} : Octs w a 0 [] := ⟨rfl, by unfold maxLen; omega, (fun x hx => absurd hx List.not_mem_nil), .inl rfl⟩
theorem Oct_take {l : List Nat} (o : Crc.Oct l) (k : Nat) : Crc.Oct (l.take k) := fun x hx => o x (List.mem_of_mem_take hx)
theorem Oct_getD {l : List Nat} (o : Crc.Oct l) (k : Nat) : l.getD k 0 < 256 := by
  rw [List.getD_eq_getElem?_getD]
  by_cases h : k < l.length
  · rw [List.getElem?_eq_getElem h]; exact o _ (List.getElem_mem h)
  · rw [List.getElem?_eq_none (by omega)]; simp
theorem cell_lt {w : World} {a : Addr} {v : Value} (h : w.cell? a = some v) : a.block < w.heap.size := by
  rcases Nat.lt_or_ge a.block w.heap.size with h' | h'
  · exact h'
  · simp [World.cell?, Array.getElem?_eq_none h'] at h
theorem later {w0 w w' : World} (h : Below w0.heap.size w0 w) (k : Below w.heap.size w w') : Below w0.heap.size w0 w' := h.trans (k.mono h.size)
theorem fresh (w : World) (o : Obj) : Below w.heap.size w (w.alloc o) := (Below.refl _ _).alloc (Nat.le_refl _) o
theorem info8 : (Tryz.prog.info? 5).map (fun i => (i.zero, i.size, i.bytes)) = some (some (.int .u8 0), 1, 1) := by kernel_rfl
def cellsOf (l : List Nat) : List Value := l.map fun n => Value.int .u8 (n : Nat)
theorem cellsOf_length (l : List Nat) : (cellsOf l).length = l.length := List.length_map _
theorem cellsOf_append (l m : List Nat) : cellsOf l ++ cellsOf m = cellsOf (l ++ m) := (List.map_append ..).symm
theorem cellsOf_one (l : List Nat) : ∀ u ∈ cellsOf l, u.oneCell' = true := by
  intro u hu
  obtain ⟨n, _, rfl⟩ := List.mem_map.1 hu
  rfl
theorem cellsOf_at (l : List Nat) (j : Nat) (h : j < l.length) : (cellsOf l)[j]? = some (Value.int .u8 (l.getD j 0 : Nat)) := by
  unfold cellsOf
  rw [List.getElem?_map, List.getD_eq_getElem?_getD, List.getElem?_eq_getElem h]
  rfl
def Own (w : World) (base : Nat) (a : Option Addr) (len cap : Nat) (l : List Nat) : Prop :=
  w.ownsRow base 5 1 (.slice a len cap) len (cellsOf l) ∧ Crc.Oct l ∧ l.length = len
theorem Own.below {w w' : World} {base : Nat} {a : Option Addr} {len cap : Nat} {l : List Nat} (h : Own w base a len cap l) (hb : Below w.heap.size w w') : Own w' base a len cap l :=
  ⟨h.1.kept (row := Option.none) ⟨hb.os, hb.tape, hb.output, hb.size, fun k hk _ => hb.block k hk⟩ (by
    cases hv : (Value.slice a len cap).ownBlock with
    | none => exact .inl rfl
    | some k => exact .inr (by simp)), h.2⟩
theorem Own.shape {w : World} {base : Nat} {a : Option Addr} {len cap : Nat} {l : List Nat} (h : Own w base a len cap l) :
    (a = none ∧ len = 0 ∧ cap = 0) ∨ ∃ g, a = some ⟨g, 0, none⟩ ∧ base ≤ g ∧ g < w.heap.size ∧ len ≤ maxLen := by
  rcases h.1.2 with ⟨e, _⟩ | ⟨g, c, cur, e, hb, hg, hn, hm, _⟩
  · simp only [Value.slice.injEq] at e; exact .inl e
  · simp only [Value.slice.injEq] at e
    refine .inr ⟨g, e.1, hb, ?_, by omega⟩
    rcases Nat.lt_or_ge g w.heap.size with h' | h'
    · exact h'
    · simp [Array.getElem?_eq_none h'] at hg
theorem Own.octs {w : World} {base : Nat} {a : Option Addr} {len cap : Nat} {l : List Nat} (h : Own w base a len cap l) : Octs w a len l := by
  rcases h.shape with ⟨rfl, rfl, rfl⟩ | ⟨g, rfl, hb, hg, hm⟩
  · exact ⟨h.2.2, by unfold maxLen; omega, h.2.1, .inl rfl⟩
  · refine ⟨h.2.2, hm, h.2.1, .inr ⟨g, 0, rfl, hg, fun i hi => ?_⟩⟩
    have := h.1.cellAt i (by omega)
    rw [Nat.zero_add, this, cellsOf_at _ _ (by rw [h.2.2]; exact hi)]
theorem wpList_append_octs {w : World} {ops : Array Oper} {rest : List Oper} {o : Oper} {a : Act} {Q : Exit → Act → World → Prop} (hgd : o.guard = none) (s x : Operand)
    (ho : o.op = .call { callee := .builtin .append, args := #[s, x], argTypes := #[22, 22] })
    (base : Nat) (a1 : Option Addr) (len cap : Nat) (l : List Nat) (hs : a.eval s = .slice a1 len cap) (hown : Own w base a1 len cap l)
    (a2 : Option Addr) (m c : Nat) (l2 : List Nat) (hx : a.eval x = .slice a2 m c) (h2 : Octs w a2 m l2) (hn : a2 = none → m = 0 ∧ c = 0) (hb : len + m ≤ 1099511627776) (hbase : base ≤ w.heap.size)
    (h : ∀ a' cap' w', Own w' base a' (len + m) cap' (l ++ l2) → Below base w w' → wpList Tryz.prog ops Q rest (a.put o.dst (.slice a' (len + m) cap')) w') : wpList Tryz.prog ops Q (o :: rest) a w := by
  obtain ⟨i0, hi, hz0, hz1, hz2⟩ := info_parts info8
  have oct : Crc.Oct (l ++ l2) := fun y hy => by
    rcases List.mem_append.1 hy with hy | hy
    · exact hown.2.1 y hy
    · exact h2.2.2.1 y hy
  have hl2 := h2.1
  have hll : (l ++ l2).length = len + m := by rw [List.length_append, hown.2.2, hl2]
  cases a2 with
  | none =>
    obtain ⟨rfl, rfl⟩ := hn rfl
    obtain rfl : l2 = [] := List.length_eq_zero_iff.1 hl2
    refine wpList_append_own_none hgd s x 22 ho base 5 i0 1 Tryz.underlying22 hi _ len (cellsOf l) hs hown.1 hx ?_
    have := h a1 cap w (by rw [List.append_nil]; exact hown) (Below.refl _ _)
    exact this
  | some ad =>
    refine wpList_append_own w hgd s x 22 ho base 5 i0 (.int .u8 0) 1 1 Tryz.underlying22 hi hz0 hz1 hz2 rfl (by decide) _ len (cellsOf l) hs hown.1 ad m c (cellsOf l2) hx (by rw [cellsOf_length]; omega) ?_ (cellsOf_one l2) (by unfold maxLen; omega) (by omega) hbase ?_
    · intro j u hj
      have hjl : j < l2.length := by
        rcases Nat.lt_or_ge j l2.length with h' | h'
        · exact h'
        · rw [List.getElem?_eq_none (by rw [cellsOf_length]; exact h')] at hj; cases hj
      rw [cellsOf_at _ _ hjl] at hj
      rcases h2.2.2.2 with h0 | ⟨b, off, e, hlt, hc⟩
      · omega
      · cases e
        have ea : (⟨b, off, none⟩ : Addr).add j = ⟨b, off + j, none⟩ := by
          unfold Addr.add; split
          · rename_i h; rw [h]; rfl
          · rfl
        rw [ea, hc j (by omega)]
        exact hj
    · intro v' w' hown' hg hnil
      rw [cellsOf_append] at hown'
      have hB : Below base w w' := (Below.refl base w).grown hg hbase (fun k hk => (hown.1.lt k hk).1)
      rcases hown'.2 with ⟨rfl, h0⟩ | ⟨g, cp, cur, rfl, _⟩
      · have := h none 0 w' ⟨by rw [h0] at hown' ⊢; exact hown', oct, hll⟩ hB
        rw [h0] at this
        exact this
      · exact h (some ⟨g, 0, none⟩) cp w' ⟨hown', oct, hll⟩ hB
theorem two_at (w : World) (c d : Nat) (hc : c < 256) (hd : d < 256) : Octs (w.alloc (.cells #[.int .u8 (c : Nat), .int .u8 (d : Nat)] 5)) (some ⟨w.heap.size, 0, none⟩) 2 [c, d] := by
  refine ⟨rfl, by unfold maxLen; omega, ?_, .inr ⟨w.heap.size, 0, rfl, by simp, ?_⟩⟩
  · intro x hx
    simp only [List.mem_cons, List.not_mem_nil, or_false] at hx
    omega
  · intro i hi
    have : i = 0 ∨ i = 1 := by omega
    rcases this with rfl | rfl <;> simp
theorem two_is (w : World) (x y : Int) (c d : Nat) (hx : x = c) (hy : y = d) (hc : c < 256) (hd : d < 256) : Octs (w.alloc (.cells #[.int .u8 x, .int .u8 y] 5)) (some ⟨w.heap.size, 0, none⟩) 2 [c, d] := by
  subst hx hy; exact two_at w c d hc hd
theorem Octs.take {w : World} {a : Option Addr} {len n : Nat} {l : List Nat} (h : Octs w a len l) (hn : n ≤ len) : Octs w a n (l.take n) := by
  obtain ⟨h1, h2, h3, h4⟩ := h
  refine ⟨by simp; omega, by omega, Oct_take h3 n, ?_⟩
  rcases h4 with h4 | ⟨b, off, ha, hlt, hc⟩
  · exact .inl (by omega)
  · refine .inr ⟨b, off, ha, hlt, fun i hi => ?_⟩
    rw [hc i (by omega)]
    congr 2
    simp [List.getD_eq_getElem?_getD, hi]
theorem Octs.at {w : World} {a : Option Addr} {len : Nat} {l : List Nat} (h : Octs w a len l) (hp : 0 < len) : ∃ b off, a = some ⟨b, off, none⟩ ∧ ∀ i, i < len → w.cell? ⟨b, off + i, none⟩ = some (.int .u8 (l.getD i 0 : Nat)) := by
  rcases h.2.2.2 with h0 | ⟨b, off, ha, _, hc⟩
  · omega
  · exact ⟨b, off, ha, hc⟩
def strOf (l : List Nat) : ByteArray := ⟨(l.map UInt8.ofNat).toArray⟩
theorem str_run {u : World} {a : Option Addr} {len cap : Nat} {l : List Nat} (h : Octs u a len l) : (convert 22 9 (.slice a len cap)).run Tryz.prog u = .ok (.string (strOf l)) u := by
  obtain ⟨h1, h2, h3, h4⟩ := h
  cases a with
  | none =>
    have h0 : len = 0 := by
      rcases h4 with h | ⟨b, off, e, _⟩
      · exact h
      · cases e
    subst h0
    obtain rfl : l = [] := List.length_eq_zero_iff.1 h1
    rw [run_convert_bytes_string u 22 9 5 none 0 cap Tryz.underlying22 Tryz.underlying5 Tryz.underlying9]
    simp [Conv.bytesToString]
    rfl
  | some x =>
    have := run_convert_bytes_back (P := Tryz.prog) u 22 9 5 x cap (l.map UInt8.ofNat) Tryz.underlying22 Tryz.underlying5 Tryz.underlying9 (by
      intro j hj
      rw [List.length_map] at hj
      rcases h4 with h | ⟨b, off, e, _, hc⟩
      · omega
      · cases e
        have ea : (⟨b, off, none⟩ : Addr).add j = ⟨b, off + j, none⟩ := by
          unfold Addr.add; split
          · rename_i h; rw [h]; rfl
          · rfl
        rw [ea, hc j (by omega), Crc.getD_mem hj]
        have h8 : l[j] < 256 := h3 _ (List.getElem_mem hj)
        simp only [List.getElem_map]
        rw [show (UInt8.ofNat l[j]).toNat = l[j] by simp; omega])
    rw [List.length_map, h1] at this
    exact this
end Go.Proofs.YtniicgbkeifnjaaGreatDoor
namespace Go.Proofs.YtniicgbkeifnjaaGreatDoor
open Go.ChangeShapes Go.WideShapes Go.ChangeAt Go.RowKit
set_option linter.unusedVariables false
set_option maxRecDepth 100000
structure Sans (F : Nat → Prop) (w w' : World) : Prop where
  os : w'.os = w.os
  tape : w'.tape = w.tape
  output : w'.output = w.output
  size : w.heap.size ≤ w'.heap.size
  block : ∀ k, k < w.heap.size → ¬ F k → w'.heap[k]? = w.heap[k]?
theorem Sans.refl (F : Nat → Prop) (w : World) : Sans F w w := ⟨rfl, rfl, rfl, Nat.le_refl _, fun _ _ _ => rfl⟩
theorem Sans.trans {F G : Nat → Prop} {w w1 w2 : World} (h : Sans F w w1) (k : Sans G w1 w2) (hG : ∀ k, G k → F k ∨ w.heap.size ≤ k) : Sans F w w2 :=
  ⟨k.os.trans h.os, k.tape.trans h.tape, k.output.trans h.output, Nat.le_trans h.size k.size, fun j hj hn => (k.block j (Nat.lt_of_lt_of_le hj h.size) (fun e => (hG j e).elim hn (fun e => by omega))).trans (h.block j hj hn)⟩
theorem Sans.of_below {F : Nat → Prop} {w w' : World} (h : Below w.heap.size w w') : Sans F w w' := ⟨h.os, h.tape, h.output, h.size, fun k hk _ => h.block k hk⟩
theorem Sans.of_grown {F : Nat → Prop} {w w' : World} {r : Option Nat} (h : w.grownBy w' r) (hr : ∀ k, r = some k → F k) : Sans F w w' := ⟨h.os, h.tape, h.output, h.size, fun k hk hn => h.block k hk (fun e => hn (hr k e.symm))⟩
theorem Sans.of_set {F : Nat → Prop} (w : World) (p : Addr) (v : Value) (hp : F p.block) : Sans F w (w.setCell p v) :=
  ⟨rfl, rfl, rfl, by simp [World.setCell], fun k hk hn => Below.heap_setCell _ _ _ _ (fun e => hn (e ▸ hp))⟩
theorem Sans.mono {F G : Nat → Prop} {w w' : World} (h : Sans F w w') (hG : ∀ k, F k → G k) : Sans G w w' := ⟨h.os, h.tape, h.output, h.size, fun k hk hn => h.block k hk (fun e => hn (hG k e))⟩
theorem Sans.below {F : Nat → Prop} {w w' : World} {B : Nat} (h : Sans F w w') (hB : B ≤ w.heap.size) (hF : ∀ k, F k → B ≤ k) : Below B w w' :=
  ⟨h.os, h.tape, h.output, h.size, fun k hk => h.block k (by omega) (fun e => by have := hF k e; omega)⟩
theorem Sans.cell {F : Nat → Prop} {w w' : World} (h : Sans F w w') {p : Addr} (hp : p.block < w.heap.size) (hn : ¬ F p.block) : w'.cell? p = w.cell? p := World.cell?_of_block (w := w) (h.block p.block hp hn)
theorem Sans.frozen {F : Nat → Prop} {w w' : World} (h : Sans F w w') {p : Addr} (hp : p.block < w.heap.size) (hn : ¬ F p.block) : w'.frozen? p = w.frozen? p := World.frozen?_of_block (w := w) (h.block p.block hp hn)
theorem Octs.sans {F : Nat → Prop} {w w' : World} {a : Option Addr} {len : Nat} {l : List Nat} (h : Octs w a len l) (k : Sans F w w') (hn : ∀ ad, a = some ad → ¬ F ad.block) : Octs w' a len l := by
  obtain ⟨h1, h2, h3, h4⟩ := h
  refine ⟨h1, h2, h3, ?_⟩
  rcases h4 with h4 | ⟨b, off, ha, hlt, hc⟩
  · exact .inl h4
  · exact .inr ⟨b, off, ha, Nat.lt_of_lt_of_le hlt k.size, fun i hi => (k.cell (p := ⟨b, off + i, none⟩) hlt (hn ⟨b, off, none⟩ ha)).trans (hc i hi)⟩
theorem Sans.drewN {F : Nat → Prop} (w : World) (n : Nat) : Sans F w (w.drewN n) := ⟨rfl, rfl, rfl, Nat.le_refl _, fun _ _ _ => rfl⟩
theorem Sans.drew {F : Nat → Prop} (w : World) : Sans F w w.drew := ⟨rfl, rfl, rfl, Nat.le_refl _, fun _ _ _ => rfl⟩
theorem Sans.alloc {F : Nat → Prop} (w : World) (o : Obj) : Sans F w (w.alloc o) := Sans.of_below (fresh w o)
theorem Sans.then {F : Nat → Prop} {w w1 w2 : World} (h : Sans F w w1) (k : Sans F w1 w2) : Sans F w w2 := h.trans k fun _ e => .inl e
theorem cell_set {w : World} {p i j : Nat} {u v : Value} (hc : w.cell? ⟨p, i, none⟩ = some v) (hij : i ≠ j) : (w.setCell ⟨p, j, none⟩ u).cell? ⟨p, i, none⟩ = some v := by
  rw [World.cell?_setCell_other]
  · exact hc
  · simp
    try omega
end Go.Proofs.YtniicgbkeifnjaaGreatDoor
namespace Go.Proofs.YtniicgbkeifnjaaGreatDoor
open Go.ChangeShapes Go.WideShapes Go.ChangeAt Go.RowKit
set_option linter.unusedVariables false
set_option maxRecDepth 100000
structure Pk where
  s : Int
  d : Int
  l : Int
  b : Int
def zpk : Pk := ⟨0, 0, 0, 0⟩
def PkAt (w : World) (b o : Nat) (x : Pk) : Prop :=
  w.cell? ⟨b, o, none⟩ = some (.int .i64 x.s) ∧ w.cell? ⟨b, o + 1, none⟩ = some (.int .i64 x.d) ∧ w.cell? ⟨b, o + 2, none⟩ = some (.int .i64 x.l) ∧ w.cell? ⟨b, o + 3, none⟩ = some (.int .u32 x.b)
theorem PkAt.lt {w : World} {b o : Nat} {x : Pk} (h : PkAt w b o x) : b < w.heap.size := cell_lt h.1
theorem PkAt.sans {F : Nat → Prop} {w w' : World} {b o : Nat} {x : Pk} (h : PkAt w b o x) (k : Sans F w w') (hn : ¬ F b) : PkAt w' b o x := by
  have e : ∀ j, w'.cell? ⟨b, j, none⟩ = w.cell? ⟨b, j, none⟩ := fun j => k.cell (p := ⟨b, j, none⟩) h.lt hn
  exact ⟨(e _).trans h.1, (e _).trans h.2.1, (e _).trans h.2.2.1, (e _).trans h.2.2.2⟩
theorem PkAt.below {w w' : World} {b o : Nat} {v : Pk} (h : PkAt w b o v) (k : Below w.heap.size w w') : PkAt w' b o v := h.sans (F := fun _ => False) (Sans.of_below k) (fun e => e)
theorem PkAt.new (w : World) (x : Pk) : PkAt (w.alloc (.cells #[.int .i64 x.s, .int .i64 x.d, .int .i64 x.l, .int .u32 x.b] 25)) w.heap.size 0 x := ⟨by simp, by simp, by simp, by simp⟩
def kcells (xs : List Pk) : List Value := xs.flatMap fun x => [.int .i64 x.s, .int .i64 x.d, .int .i64 x.l, .int .u32 x.b]
theorem kcells_snoc (xs : List Pk) (x : Pk) : kcells (xs ++ [x]) = kcells xs ++ [.int .i64 x.s, .int .i64 x.d, .int .i64 x.l, .int .u32 x.b] := by simp [kcells]
theorem kcells_length (xs : List Pk) : (kcells xs).length = xs.length * 4 := by
  induction xs with
  | nil => rfl
  | cons x r ih =>
    have : kcells (x :: r) = [.int .i64 x.s, .int .i64 x.d, .int .i64 x.l, .int .u32 x.b] ++ kcells r := by simp [kcells]
    rw [this, List.length_append, ih]
    simp
    omega
theorem infoPk : (Tryz.prog.info? 25).map (fun i => (i.zero, i.size, i.bytes)) = some (some (.agg #[.int .i64 0, .int .i64 0, .int .i64 0, .int .u32 0]), 4, 32) := by kernel_rfl
def PRow (w : World) (base : Nat) (v : Value) (xs : List Pk) : Prop := w.ownsRow base 25 4 v xs.length (kcells xs)
theorem four_one (a b c d : Int) : ∀ u ∈ [Value.int .i64 a, .int .i64 b, .int .i64 c, .int .u32 d], u.oneCell' = true := by
  intro u hu
  simp only [List.mem_cons, List.not_mem_nil, or_false] at hu
  rcases hu with rfl | rfl | rfl | rfl <;> rfl
theorem kcells_at : ∀ {xs : List Pk} {j : Nat} {x : Pk} (h : xs[j]? = some x) (i : Nat), i < 4 → (kcells xs)[j * 4 + i]? = [Value.int .i64 x.s, .int .i64 x.d, .int .i64 x.l, .int .u32 x.b][i]?
  | [], j, e, h, i, hi => by simp at h
  | f :: ls, 0, e, h, i, hi => by
    simp at h
    subst h
    have : kcells (f :: ls) = [.int .i64 f.s, .int .i64 f.d, .int .i64 f.l, .int .u32 f.b] ++ kcells ls := by simp [kcells]
    rw [this, List.getElem?_append_left (by simp; omega), Nat.zero_mul, Nat.zero_add]
  | f :: ls, j + 1, e, h, i, hi => by
    have : kcells (f :: ls) = [.int .i64 f.s, .int .i64 f.d, .int .i64 f.l, .int .u32 f.b] ++ kcells ls := by simp [kcells]
    rw [this, List.getElem?_append_right (by simp; omega)]
    have := kcells_at (xs := ls) (j := j) (x := e) (by simpa using h) i hi
    simp only [List.length_cons, List.length_nil]
    rw [show (j + 1) * 4 + i - (0 + 1 + 1 + 1 + 1) = j * 4 + i by omega]
    exact this
theorem PRow.at {w : World} {base len cap : Nat} {a : Option Addr} {xs : List Pk} (h : PRow w base (.slice a len cap) xs) {j : Nat} {x : Pk} (hj : xs[j]? = some x) : ∃ g, a = some ⟨g, 0, none⟩ ∧ g < w.heap.size ∧ PkAt w g (j * 4) x := by
  have hlt : j < xs.length := (List.getElem?_eq_some_iff.1 hj).1
  unfold PRow at h
  rcases h.2 with ⟨e1, h0⟩ | ⟨g, cp, cur, e1, _, hg, hn, hm, _, _⟩
  · omega
  · simp only [Value.slice.injEq] at e1
    obtain ⟨rfl, rfl, rfl⟩ := e1
    have hc : ∀ i, i < 4 → w.cell? ⟨g, j * 4 + i, none⟩ = [Value.int .i64 x.s, .int .i64 x.d, .int .i64 x.l, .int .u32 x.b][i]? := fun i hi => by
      rw [h.cellAt (j * 4 + i) (by omega)]
      exact kcells_at hj i hi
    exact ⟨g, rfl, (h.lt g rfl).2, hc 0 (by omega), hc 1 (by omega), hc 2 (by omega), hc 3 (by omega)⟩
def lay4 (w : World) (b o : Nat) (x : Pk) : World := (((w.setCell ⟨b, o, none⟩ (.int .i64 x.s)).setCell ⟨b, o + 1, none⟩ (.int .i64 x.d)).setCell ⟨b, o + 2, none⟩ (.int .i64 x.l)).setCell ⟨b, o + 3, none⟩ (.int .u32 x.b)
theorem lay4_sans (w : World) (b o : Nat) (x : Pk) : Sans (fun j => j = b) w (lay4 w b o x) :=
  (((Sans.of_set (F := fun j => j = b) w ⟨b, o, none⟩ _ rfl).then (Sans.of_set _ ⟨b, o + 1, none⟩ _ rfl)).then (Sans.of_set _ ⟨b, o + 2, none⟩ _ rfl)).then (Sans.of_set _ ⟨b, o + 3, none⟩ _ rfl)
theorem lay4_below {w W : World} {b o : Nat} {x : Pk} (h : Below w.heap.size w W) (hb : w.heap.size ≤ b) : Below w.heap.size w (lay4 W b o x) := h.trans ((lay4_sans W b o x).below h.size (fun k e => by rw [e]; exact hb))
structure Four (w : World) (b : Nat) : Prop where
  a0 : ∃ v, w.cell? ⟨b, 0, none⟩ = some v
  a1 : ∃ v, w.cell? ⟨b, 1, none⟩ = some v
  a2 : ∃ v, w.cell? ⟨b, 2, none⟩ = some v
  a3 : ∃ v, w.cell? ⟨b, 3, none⟩ = some v
  f0 : w.frozen? ⟨b, 0, none⟩ = false
  f1 : w.frozen? ⟨b, 1, none⟩ = false
  f2 : w.frozen? ⟨b, 2, none⟩ = false
  f3 : w.frozen? ⟨b, 3, none⟩ = false
theorem Four.lt {w : World} {b : Nat} (h : Four w b) : b < w.heap.size := by
  obtain ⟨v, h⟩ := h.a0
  exact cell_lt h
theorem Four.sans {F : Nat → Prop} {w w' : World} {b : Nat} (h : Four w b) (k : Sans F w w') (hn : ¬ F b) : Four w' b := by
  have hb := h.lt
  have ec : ∀ j, w'.cell? ⟨b, j, none⟩ = w.cell? ⟨b, j, none⟩ := fun j => k.cell (p := ⟨b, j, none⟩) hb hn
  have ef : ∀ j, w'.frozen? ⟨b, j, none⟩ = w.frozen? ⟨b, j, none⟩ := fun j => k.frozen (p := ⟨b, j, none⟩) hb hn
  exact ⟨by rw [ec]; exact h.a0, by rw [ec]; exact h.a1, by rw [ec]; exact h.a2, by rw [ec]; exact h.a3, by rw [ef]; exact h.f0, by rw [ef]; exact h.f1, by rw [ef]; exact h.f2, by rw [ef]; exact h.f3⟩
theorem Four.below {w w' : World} {b : Nat} (h : Four w b) (k : Below w.heap.size w w') : Four w' b := h.sans (F := fun _ => False) (Sans.of_below k) (fun e => e)
theorem Four.new (w : World) (a b c d : Value) (t : TypeId) : Four (w.alloc (.cells #[a, b, c, d] t)) w.heap.size := ⟨⟨a, by simp⟩, ⟨b, by simp⟩, ⟨c, by simp⟩, ⟨d, by simp⟩, by simp, by simp, by simp, by simp⟩
end Go.Proofs.YtniicgbkeifnjaaGreatDoor
namespace Go.Proofs.YtniicgbkeifnjaaGreatDoor.K
open Go.ChangeShapes Go.WideShapes Go.ChangeAt Go.RowKit
set_option linter.unusedVariables false
set_option maxRecDepth 100000
namespace Hst
def isL (k : Int) (x : Pk) : Bool := decide (x.l = k)
def lane (L : List Pk) (k : Int) : List Pk := L.filter (isL k)
theorem lane_snoc_at (L : List Pk) (x : Pk) : lane (L ++ [x]) x.l = lane L x.l ++ [x] := by simp [lane, isL]
theorem lane_snoc_not (L : List Pk) {x : Pk} {k : Int} (h : x.l ≠ k) : lane (L ++ [x]) k = lane L k := by simp [lane, isL, h]
theorem lane_len (L : List Pk) (k : Int) : (lane L k).length ≤ L.length := List.length_filter_le _ _
def hdk (l : List Pk) : Pk := l.headD zpk
def drop1 (L : List Pk) (k : Int) : List Pk := L.eraseP (isL k)
theorem lane_drop1 : ∀ (L : List Pk) (k : Int), lane (drop1 L k) k = (lane L k).tail
  | [], k => rfl
  | x :: r, k => by
    unfold drop1
    by_cases h : x.l = k
    · rw [List.eraseP_cons_of_pos (by simp [isL, h])]
      simp [lane, isL, h]
    · rw [List.eraseP_cons_of_neg (by simp [isL, h])]
      have ih := lane_drop1 r k
      unfold drop1 lane at ih
      unfold lane
      rw [List.filter_cons_of_neg (by simp [isL, h]), List.filter_cons_of_neg (by simp [isL, h])]
      exact ih
theorem lane_drop1_not : ∀ (L : List Pk) {k j : Int}, j ≠ k → lane (drop1 L k) j = lane L j
  | [], k, j, _ => rfl
  | x :: r, k, j, hj => by
    unfold drop1
    by_cases h : x.l = k
    · rw [List.eraseP_cons_of_pos (by simp [isL, h])]
      have : ¬ x.l = j := fun e => hj (by rw [← e, h])
      simp [lane, isL, this]
    · rw [List.eraseP_cons_of_neg (by simp [isL, h])]
      have ih := lane_drop1_not r hj
      unfold drop1 lane at ih
      unfold lane
      by_cases h2 : x.l = j
      · rw [List.filter_cons_of_pos (by simp [isL, h2]), List.filter_cons_of_pos (by simp [isL, h2]), ih]
      · rw [List.filter_cons_of_neg (by simp [isL, h2]), List.filter_cons_of_neg (by simp [isL, h2])]
        exact ih
def putE (n q : Nat) (L : List Pk) (x : Pk) : Int := if x.l < 0 ∨ (n : Int) ≤ x.l then 1 else if q ≤ (lane L x.l).length then 150 else 0
def putL (n q : Nat) (L : List Pk) (x : Pk) : List Pk := if putE n q L x = 0 then L ++ [x] else L
theorem putE_lane {n q : Nat} {L : List Pk} {x : Pk} (h : x.l < 0 ∨ (n : Int) ≤ x.l) : putE n q L x = 1 := if_pos h
theorem putE_full {n q : Nat} {L : List Pk} {x : Pk} (h : ¬ (x.l < 0 ∨ (n : Int) ≤ x.l)) (h2 : q ≤ (lane L x.l).length) : putE n q L x = 150 := by unfold putE; rw [if_neg h, if_pos h2]
theorem putE_ok {n q : Nat} {L : List Pk} {x : Pk} (h : ¬ (x.l < 0 ∨ (n : Int) ≤ x.l)) (h2 : ¬ q ≤ (lane L x.l).length) : putE n q L x = 0 := by unfold putE; rw [if_neg h, if_neg h2]
theorem putL_no {n q : Nat} {L : List Pk} {x : Pk} (h : putE n q L x ≠ 0) : putL n q L x = L := if_neg h
theorem putL_yes {n q : Nat} {L : List Pk} {x : Pk} (h : putE n q L x = 0) : putL n q L x = L ++ [x] := if_pos h
structure Fits (n q : Nat) (L : List Pk) : Prop where
  n3 : 1 ≤ n ∧ n ≤ 3
  q8 : 1 ≤ q ∧ q ≤ 8
  lanes : ∀ x ∈ L, 0 ≤ x.l ∧ x.l < (n : Int)
  room : ∀ k, (lane L k).length ≤ q
theorem Fits.nil {n q : Nat} (h1 : 1 ≤ n ∧ n ≤ 3) (h2 : 1 ≤ q ∧ q ≤ 8) : Fits n q [] := ⟨h1, h2, fun x hx => by simp at hx, fun k => Nat.zero_le _⟩
theorem Fits.put {n q : Nat} {L : List Pk} (h : Fits n q L) (x : Pk) : Fits n q (putL n q L x) := by
  by_cases e : putE n q L x = 0
  · rw [putL_yes e]
    unfold putE at e
    by_cases h1 : x.l < 0 ∨ (n : Int) ≤ x.l
    · rw [if_pos h1] at e; cases e
    · rw [if_neg h1] at e
      by_cases h2 : q ≤ (lane L x.l).length
      · rw [if_pos h2] at e; cases e
      · refine ⟨h.n3, h.q8, fun y hy => ?_, fun k => ?_⟩
        · rcases List.mem_append.1 hy with hy | hy
          · exact h.lanes y hy
          · rw [List.mem_singleton.1 hy]; omega
        · by_cases hk : x.l = k
          · subst hk
            rw [lane_snoc_at, List.length_append]
            simp
            omega
          · rw [lane_snoc_not L hk]
            exact h.room k
  · rw [putL_no e]
    exact h
theorem Fits.drop1 {n q : Nat} {L : List Pk} (h : Fits n q L) (k : Int) : Fits n q (drop1 L k) := by
  refine ⟨h.n3, h.q8, fun x hx => h.lanes x (List.mem_of_mem_eraseP hx), fun j => ?_⟩
  by_cases e : j = k
  · subst e
    rw [lane_drop1, List.length_tail]
    have := h.room j
    omega
  · rw [lane_drop1_not L e]
    exact h.room j
theorem Fits.out {n q : Nat} {L : List Pk} (h : Fits n q L) {k : Int} (hk : k < 0 ∨ (n : Int) ≤ k) : lane L k = [] := by
  unfold lane
  rw [List.filter_eq_nil_iff]
  intro x hx
  have := h.lanes x hx
  simp [isL]
  omega
theorem lanes_len : ∀ (L : List Pk), (∀ x ∈ L, 0 ≤ x.l ∧ x.l < 3) → L.length ≤ (lane L 0).length + (lane L 1).length + (lane L 2).length
  | [], _ => by simp
  | x :: r, h => by
    have ih := lanes_len r (fun y hy => h y (List.mem_cons_of_mem _ hy))
    have hx := h x List.mem_cons_self
    unfold lane at ih ⊢
    have e : x.l = 0 ∨ x.l = 1 ∨ x.l = 2 := by omega
    rcases e with e | e | e <;> simp [isL, e] at ih ⊢ <;> omega
theorem Fits.len {n q : Nat} {L : List Pk} (h : Fits n q L) : L.length ≤ 24 := by
  have h1 := lanes_len L (fun x hx => by have := h.lanes x hx; have := h.n3; omega)
  have h2 := h.room 0
  have h3 := h.room 1
  have h4 := h.room 2
  have := h.q8
  omega
end Hst
end Go.Proofs.YtniicgbkeifnjaaGreatDoor.K
namespace Go.Proofs.YtniicgbkeifnjaaGreatDoor.K
open Go.ChangeShapes Go.WideShapes Go.ChangeAt Go.RowKit
set_option linter.unusedVariables false
set_option maxRecDepth 100000
structure Inv (n : Nat) (S : List (Option Pk)) (E : List Nat) : Prop where
  len : S.length = n
  nd : E.Nodup
  mem : ∀ k, k ∈ E ↔ S[k]? = some none
  cnt : E.length + S.countP Option.isSome = n
def look (S : List (Option Pk)) (z : Int) : Option Pk := if 0 ≤ z then S.getD z.toNat none else none
theorem Inv.le {n : Nat} {S : List (Option Pk)} {E : List Nat} (h : Inv n S E) : E.length ≤ n := by have := h.cnt; omega
theorem Inv.room {n : Nat} {S : List (Option Pk)} {E : List Nat} (h : Inv n S E) {k : Nat} {x : Pk} (hk : S[k]? = some (some x)) : E.length < n := by
  have h1 : 0 < S.countP Option.isSome := by
    rw [List.countP_pos_iff]
    exact ⟨some x, List.mem_of_getElem? hk, rfl⟩
  have := h.cnt
  omega
theorem countP_set' {S : List (Option Pk)} {k : Nat} {v : Option Pk} (hk : k < S.length) : (S.set k v).countP Option.isSome + (if (S[k]).isSome then 1 else 0) = S.countP Option.isSome + (if v.isSome then 1 else 0) := by
  induction S generalizing k with
  | nil => simp at hk
  | cons x r ih =>
    cases k with
    | zero =>
      simp only [List.set_cons_zero, List.countP_cons, List.getElem_cons_zero]
      omega
    | succ k =>
      simp only [List.length_cons] at hk
      have := ih (k := k) (by omega)
      simp only [List.set_cons_succ, List.countP_cons, List.getElem_cons_succ]
      omega
theorem Inv.put {n : Nat} {S : List (Option Pk)} {E : List Nat} {k : Nat} (h : Inv n S (E ++ [k])) (x : Pk) : Inv n (S.set k (some x)) E := by
  have hk := (h.mem k).1 (by simp)
  obtain ⟨hlt, hk2⟩ := List.getElem?_eq_some_iff.1 hk
  have hnd := List.nodup_append.1 h.nd
  refine ⟨by rw [List.length_set]; exact h.len, hnd.1, fun j => ?_, ?_⟩
  · by_cases hj : j = k
    · subst hj
      rw [List.getElem?_set_self hlt]
      exact ⟨fun e => absurd rfl (hnd.2.2 j e j (by simp)), fun e => by cases e⟩
    · rw [List.getElem?_set_ne (fun e => hj e.symm), ← h.mem j]
      simp [hj]
  · have h1 := countP_set' (S := S) (k := k) (v := some x) hlt
    rw [hk2] at h1
    have h2 := h.cnt
    simp at h1 h2
    omega
theorem Inv.drop {n : Nat} {S : List (Option Pk)} {E : List Nat} {k : Nat} {x : Pk} (h : Inv n S E) (hk : S[k]? = some (some x)) : Inv n (S.set k none) (E ++ [k]) := by
  obtain ⟨hlt, hk2⟩ := List.getElem?_eq_some_iff.1 hk
  have hnm : k ∉ E := fun e => by rw [h.mem k, hk] at e; cases e
  refine ⟨by rw [List.length_set]; exact h.len, ?_, fun j => ?_, ?_⟩
  · rw [List.nodup_append]
    refine ⟨h.nd, by simp, fun a ha b hb => ?_⟩
    simp at hb
    subst hb
    intro e; subst e; exact hnm ha
  · by_cases hj : j = k
    · subst hj
      rw [List.getElem?_set_self hlt]
      simp
    · rw [List.getElem?_set_ne (fun e => hj e.symm), ← h.mem j]
      simp [hj]
  · have h1 := countP_set' (S := S) (k := k) (v := none) hlt
    rw [hk2] at h1
    have h2 := h.cnt
    simp at h1 ⊢
    omega
def down (n : Nat) : List Nat := (List.range n).reverse
theorem down_length (n : Nat) : (down n).length = n := by simp [down]
theorem down_at {n k : Nat} (h : k < n) : (down n)[k]? = some (n - 1 - k) := by
  unfold down
  rw [List.getElem?_reverse (by simpa using h), List.length_range, List.getElem?_range (by omega)]
def none_ (n : Nat) : List (Option Pk) := List.replicate n none
theorem none_at {n k : Nat} : (none_ n)[k]? = some none ↔ k < n := by
  unfold none_
  rw [List.getElem?_replicate]
  by_cases h : k < n <;> simp [h]
theorem Inv.new (n : Nat) : Inv n (none_ n) (down n) := by
  refine ⟨by simp [none_], List.pairwise_reverse.2 (List.nodup_range.imp (fun h => Ne.symm h)), fun k => ?_, by simp [none_, down_length]⟩
  rw [none_at]
  simp [down]
def up (n i : Nat) : List Nat := (down n).take (n - i)
theorem up_zero (n : Nat) : up n 0 = down n := by
  unfold up
  rw [List.take_of_length_le (by rw [down_length]; omega)]
theorem snoc_of {E : List Nat} (h : E ≠ []) : ∃ F k, E = F ++ [k] := ⟨E.dropLast, E.getLast h, (List.dropLast_concat_getLast h).symm⟩
end Go.Proofs.YtniicgbkeifnjaaGreatDoor.K
