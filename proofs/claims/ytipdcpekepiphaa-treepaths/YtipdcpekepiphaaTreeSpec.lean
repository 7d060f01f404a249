/-
  What package tree is to come to (contracts, as a structure), and the laws' helpers Of, same, alike, known over it. Conditions: none but that package tree comes to what TreeSpec says.
-/
import Derived.Test.YtipdcpekepiphaaRefTreeC
import Derived.Test.YtipdcpekepiphaaOctets
namespace Go.Proofs.Ytipdcpekepiphaa
open Go.ChangeShapes Go.WideShapes Go.ChangeAt Go.RowKit
set_option linter.unusedVariables false

/-- a slice of numbers, as an argument -/
structure ArgZ (w : World) (a : Option Addr) (n c : Nat) (ps : List Int) : Prop where
  z : Zr w a n ps
  cap : n ≤ c ∧ c ≤ maxLen
  nil : a = none → c = 0
  big : n ≤ 17592186044416
  num : ∀ x ∈ ps, I64 x
theorem ArgZ.below {w w' : World} {a : Option Addr} {n c : Nat} {ps : List Int} (h : ArgZ w a n c ps) (k : Below w.heap.size w w') : ArgZ w' a n c ps := ⟨h.z.below k, h.cap, h.nil, h.big, h.num⟩
theorem argz_of_owns {w : World} {base : Nat} {e : TypeId} {v : Value} {l : List Int} (h : w.ownsRow base e 1 v l.length (zcells l)) (hb : l.length ≤ 17592186044416) (hn : ∀ x ∈ l, I64 x) : ∃ a cap, v = .slice a l.length cap ∧ ArgZ w a l.length cap l := by
  obtain ⟨a, cap, h1, h2, h3, h4, h5, _⟩ := zr_of_owns h
  exact ⟨a, cap, h1, h2, ⟨h3, h4⟩, h5, hb, hn⟩
/-- a plan, as an argument: rows that are nil have no capacity -/
structure ArgP (w : World) (p : PV) (es : List (Int × Int)) (ws : List Int) (ns : List Nat) : Prop where
  pl : Pl w p es ws ns
  en : p.ea = none → p.en = 0 ∧ p.ec = 0
  wn : p.wa = none → p.wn = 0 ∧ p.wc = 0
  nn : p.na = none → p.nn = 0 ∧ p.nc = 0
theorem ArgP.below {w w' : World} {p : PV} {es : List (Int × Int)} {ws : List Int} {ns : List Nat} (h : ArgP w p es ws ns) (k : Below w.heap.size w w') : ArgP w' p es ws ns := ⟨h.pl.below k, h.en, h.wn, h.nn⟩
/-- the zero plan -/
theorem argp_zero (w : World) : ArgP w pz [] [] [] := by
  refine ⟨⟨Pr.nil, Zr.nil, Lr.nil, by simp [pz], by simp [pz], by simp [pz], ⟨Nat.le_refl _, Nat.zero_le _⟩, ⟨Nat.le_refl _, Nat.zero_le _⟩, ⟨Nat.le_refl _, Nat.zero_le _⟩, by simp, by simp, ?_⟩, fun _ => ⟨rfl, rfl⟩, fun _ => ⟨rfl, rfl⟩, fun _ => ⟨rfl, rfl⟩⟩
  simp [pz, I64]
structure TreeSpec : Prop where
  path : ∀ {w : World} {a : Option Addr} {n c : Nat} {ps : List Int}, ArgZ w a n c ps → ∀ v u : Int, I64 v → I64 u →
    Calls Try.prog 14 #[.slice a n c, .int .i64 v, .int .i64 u] w fun e w' => ∃ a' c', e = .returned (.slice a' (Tree.pathOf ps v u).length c') ∧ ArgZ w' a' (Tree.pathOf ps v u).length c' (Tree.pathOf ps v u) ∧ Below w.heap.size w w'
  lay : ∀ {w : World} {p : PV} {es : List (Int × Int)} {ws : List Int} {ns : List Nat}, ArgP w p es ws ns → ∀ {a : Option Addr} {n c : Nat} {ps : List Int}, ArgZ w a n c ps →
    Calls Try.prog 12 #[p.val, .slice a n c] w fun e w' => LayEnd .u16 w.heap.size p ps ws e w' ∧ Below w.heap.size w w'
set_option maxHeartbeats 1000000 in
set_option maxRecDepth 100000 in
theorem tsame_any {w : World} {a b : Option Addr} {n c d : Nat} {l : List Int} (h : Zr w a n l) (k : Zr w b n l) (hn : n ≤ 17592186044416) :
    Calls Try.prog 16 #[.slice a n c, .slice b n d] w fun e w' => e = .returned (.bool true) ∧ Below w.heap.size w w' := by
  have HA : Hid (Zr w a n l) := h
  have HB : Hid (Zr w b n l) := k
  clear h k
  go_enter Try.func16, Try.ntmps16
  go_wp2_with fail
  go_loopw [5] (fun i wr => ∃ k : Nat, k ≤ n ∧ i = .int .i64 k ∧ Below w.heap.size w wr) (fun i _ => n - (intOf i).toNat)
  case atStart => exact ⟨0, Nat.zero_le _, rfl, Below.refl _ _⟩
  case round =>
    obtain ⟨k, hk, rfl, hB⟩ := hrel
    have HBw : Hid (Below w.heap.size w wr) := hB
    clear hB
    by_cases hkn : k < n
    · obtain ⟨b1, o1, e1, c1⟩ := (HA.out.below HBw.out).at hkn
      obtain ⟨b2, o2, e2, c2⟩ := (HB.out.below HBw.out).at hkn
      subst e1
      subst e2
      obtain ⟨y, hy⟩ : ∃ y, l.getD k 0 = y := ⟨_, rfl⟩
      rw [hy] at c1 c2
      clear hy
      go_wp2_with fail
      go_region
      go_wp2_with fail
      go_roundw
      case rel => first | exact ⟨k + 1, by omega, by go_num, HBw.out.drew⟩ | ((repeat apply Exists.intro); exact ⟨⟨k + 1, by omega, by go_num, HBw.out.drew⟩, rfl⟩)
      case measure => simp [intOf]; omega
    · obtain rfl : k = n := by omega
      go_wp2_with fail
      go_ret
      exact ⟨rfl, HBw.out⟩
namespace Tree
def ofPre (l : List Nat) (k : Nat) : List Int := (List.range k).map fun (i : Nat) => ((l.getD i 0 % (i + 1) : Nat) : Int)
def ofL (l : List Nat) : List Int := if l.length = 0 then [0] else ofPre l (min l.length 5)
theorem ofPre_len (l : List Nat) (k : Nat) : (ofPre l k).length = k := by unfold ofPre; rw [List.length_map, List.length_range]
theorem ofPre_succ (l : List Nat) (k : Nat) : ofPre l (k + 1) = ofPre l k ++ [((l.getD k 0 % (k + 1) : Nat) : Int)] := by unfold ofPre; rw [List.range_succ, List.map_append]; rfl
theorem ofPre_at (l : List Nat) {k i : Nat} (h : i < k) : (ofPre l k).getD i 0 = ((l.getD i 0 % (i + 1) : Nat) : Int) := by
  unfold ofPre
  rw [List.getD_eq_getElem?_getD, List.getElem?_map, List.getElem?_range h]
  rfl
theorem ofL_len (l : List Nat) : 1 ≤ (ofL l).length ∧ (ofL l).length ≤ 5 := by
  unfold ofL
  split
  · simp
  · rw [ofPre_len]; omega
theorem ofL_ok (l : List Nat) : ok (ofL l) = true := by
  have h5 := (ofL_len l).2
  unfold ok
  rw [Bool.and_eq_true, decide_eq_true_eq, low_iff]
  refine ⟨?_, h5⟩
  unfold ofL
  split
  · intro i hi
    have : i = 0 := by simpa using hi
    subst this
    simp
  · intro i hi
    rw [ofPre_len] at hi
    rw [ofPre_at l hi]
    have := Nat.mod_lt (l.getD i 0) (show i + 1 > 0 by omega)
    omega
theorem ofL_lay (l : List Nat) : layOk (ofL l) = true := by
  unfold layOk
  rw [ofL_ok, Bool.true_and, decide_eq_true_eq]
  have := (ofL_len l).1
  omega
theorem ok_num {ps : List Int} (h : ok ps = true) : ∀ x ∈ ps, I64 x := by
  obtain ⟨h5, hl⟩ := ok_parts h
  intro x hx
  obtain ⟨k, hk, rfl⟩ := List.getElem_of_mem hx
  have := hl k hk
  rw [List.getD_eq_getElem?_getD, List.getElem?_eq_getElem hk] at this
  simp only [Option.getD_some] at this
  unfold I64
  omega
end Tree
set_option maxHeartbeats 1000000 in
set_option maxRecDepth 100000 in
theorem of_any {w : World} {a : Option Addr} {n c : Nat} {l : List Nat} (h : Octs w a n l) :
    Calls Try.prog 11 #[.slice a n c] w fun e w' => ∃ u, e = .returned u ∧ w'.ownsRow w.heap.size 3 1 u (Tree.ofL l).length (zcells (Tree.ofL l)) ∧ Below w.heap.size w w' := by
  have HO : Hid (Octs w a n l) := h
  have hln := h.1
  clear h
  go_enter Try.func11, Try.ntmps11
  go_wp2_with fail
  go_loopw [3, 4] (fun out i wr => ∃ k : Nat, k ≤ n ∧ k ≤ 5 ∧ i = .int .i64 k ∧ wr.ownsRow w.heap.size 3 1 out (Tree.ofPre l k).length (zcells (Tree.ofPre l k)) ∧ Below w.heap.size w wr) (fun _ i _ => 5 - (intOf i).toNat)
  case atStart => exact ⟨0, Nat.zero_le _, Nat.zero_le _, rfl, World.ownsRow_nil _ _ _ _, Below.refl _ _⟩
  case round =>
    obtain ⟨k, hk, hk5, rfl, hO, hB⟩ := hrel
    have HOw : Hid (wr.ownsRow w.heap.size 3 1 u3 (Tree.ofPre l k).length (zcells (Tree.ofPre l k))) := hO
    have HB : Hid (Below w.heap.size w wr) := hB
    have hsz := hB.size
    clear hO hB
    by_cases hkn : k < n
    · by_cases hk6 : k < 5
      · obtain ⟨b, off, ha, hc⟩ := (HO.out.below HB.out).at (by omega)
        have hcell := hc k hkn
        subst ha
        obtain ⟨y, hy⟩ : ∃ y, l.getD k 0 = y := ⟨_, rfl⟩
        have hy256 : y < 256 := by rw [← hy]; exact Oct_getD HO.out.2.2.1 k
        rw [hy] at hcell
        obtain ⟨r, hr⟩ : ∃ r : Int, (y : Int) % ((k : Int) + 1) = r := ⟨_, rfl⟩
        have HA : Hid (Tree.ofPre l k ++ [r] = Tree.ofPre l (k + 1)) := by
          show _ = _
          rw [Tree.ofPre_succ, hy, ← hr]
          congr 2
        have hpl := Tree.ofPre_len l k
        clear hc hy
        go_wp2_with (at_builtin; refine wpList_append_z rfl (.tmp 15) (.tmp 24) rfl w.heap.size u3 (Tree.ofPre l k) rfl (owns_below HOw.out (fresh _ _)) (by simp; omega) (some ⟨wr.heap.size, 0, none⟩) 1 1 [r] rfl (zr_one wr _) (fun e => by cases e) (by omega) _ HA.out ?_; intro v4 w4 hown4 hB4)
        go_roundw
        case rel =>
          have R1 : Below w.heap.size w w4 := (HB.out.alloc hsz _).trans hB4
          first | exact ⟨k + 1, by omega, by omega, by go_num, hown4, R1⟩ | ((repeat apply Exists.intro); exact ⟨⟨k + 1, by omega, by omega, by go_num, hown4, R1⟩, rfl⟩)
        case measure => simp [intOf]; omega
      · obtain rfl : k = 5 := by omega
        obtain ⟨a3, cap3, hv3, hz3, _⟩ := zr_of_owns HOw.out
        rw [Tree.ofPre_len] at hv3
        subst hv3
        have HE : Hid (Tree.ofPre l 5 = Tree.ofL l) := by
          show _ = _
          unfold Tree.ofL
          rw [if_neg (by omega), show min l.length 5 = 5 by omega]
        clear hz3
        go_wp2_with fail
        go_ret
        refine ⟨_, rfl, ?_, HB.out⟩
        have := HOw.out
        rw [HE.out] at this
        exact this
    · obtain rfl : k = n := by omega
      obtain ⟨a3, cap3, hv3, hz3, _⟩ := zr_of_owns HOw.out
      rw [Tree.ofPre_len] at hv3
      subst hv3
      clear hz3
      by_cases hk0 : k = 0
      · subst hk0
        have HE : Hid (Tree.ofPre l 0 ++ [0] = Tree.ofL l) := by
          show _ = _
          unfold Tree.ofL
          rw [if_pos hln]
          rfl
        go_wp2_with (at_builtin; refine wpList_append_z rfl (.tmp 29) (.tmp 30) rfl w.heap.size (.slice a3 0 cap3) (Tree.ofPre l 0) rfl (owns_below HOw.out (fresh _ _)) (by simp; omega) (some ⟨wr.heap.size, 0, none⟩) 1 1 [0] rfl (zr_one wr _) (fun e => by cases e) (by rw [Tree.ofPre_len]; omega) _ HE.out ?_; intro v4 w4 hown4 hB4)
        go_ret
        exact ⟨_, rfl, hown4, (HB.out.alloc hsz _).trans hB4⟩
      · have HE : Hid (Tree.ofPre l k = Tree.ofL l) := by
          show _ = _
          unfold Tree.ofL
          rw [if_neg (by omega), show min l.length 5 = k by omega]
        have hk0' : ((k : Int) == 0) = false := by simp; omega
        go_wp2_with fail
        go_ret
        refine ⟨_, rfl, ?_, HB.out⟩
        have := HOw.out
        rw [HE.out] at this
        exact this
end Go.Proofs.Ytipdcpekepiphaa
