/-
  The plans that choices make (the laws' Make), as plain numbers and lists, and that they may be. Conditions: none.
-/
import Derived.Test.YtphaaolnmbadcaaRefPlanE
namespace Go.Proofs.Ytphaaolnmbadcaa.Plan
set_option linter.unusedVariables false

def tri : Nat → Nat
  | 0 => 0
  | b + 1 => tri b + b
def bitAt (J k : Nat) : Nat := J / 2 ^ k
theorem bitAt_zero (J : Nat) : bitAt J 0 = J := by simp [bitAt]
theorem bitAt_succ (J k : Nat) : bitAt J (k + 1) = bitAt J k / 2 := by
  unfold bitAt
  rw [Nat.pow_succ, Nat.div_div_eq_div_mul]
theorem bitAt_le (J k : Nat) : bitAt J k ≤ J := Nat.div_le_self _ _
/-- edges to b, from nodes below a -/
def part (J b a : Nat) : List (Int × Int) := ((List.range a).filter fun x => bitAt J (tri b + x) % 2 == 1).map fun (x : Nat) => ((x : Int), (b : Int))
/-- edges among the first b -/
def full (J : Nat) : Nat → List (Int × Int)
  | 0 => []
  | b + 1 => full J b ++ part J b b
theorem part_zero (J b : Nat) : part J b 0 = [] := rfl
theorem part_hit {J b a : Nat} (h : bitAt J (tri b + a) % 2 = 1) : part J b (a + 1) = part J b a ++ [((a : Int), (b : Int))] := by
  unfold part
  rw [List.range_succ, List.filter_append, List.map_append]
  simp [h]
theorem part_miss {J b a : Nat} (h : bitAt J (tri b + a) % 2 ≠ 1) : part J b (a + 1) = part J b a := by
  unfold part
  rw [List.range_succ, List.filter_append, List.map_append]
  have : (bitAt J (tri b + a) % 2 == 1) = false := by simpa using h
  simp [this]
theorem mem_part {J b a : Nat} {e : Int × Int} (h : e ∈ part J b a) : ∃ x : Nat, x < a ∧ e = ((x : Int), (b : Int)) := by
  unfold part at h
  obtain ⟨x, hx, rfl⟩ := List.mem_map.1 h
  have := List.mem_range.1 (List.mem_filter.1 hx).1
  exact ⟨x, this, rfl⟩
theorem part_len (J b a : Nat) : (part J b a).length ≤ a := by
  unfold part
  rw [List.length_map]
  have := List.length_filter_le (fun x => bitAt J (tri b + x) % 2 == 1) (List.range a)
  rw [List.length_range] at this
  exact this
theorem part_nodup (J b a : Nat) : (part J b a).Nodup := by
  unfold part
  refine List.pairwise_map.2 ?_
  refine List.Pairwise.imp (fun {x y} h => ?_) ((List.nodup_range (n := a)).filter _)
  intro e
  simp only [Prod.mk.injEq] at e
  exact h (by omega)
theorem mem_full {J : Nat} : ∀ {b : Nat} {e : Int × Int}, e ∈ full J b → ∃ x y : Nat, x < y ∧ y < b ∧ e = ((x : Int), (y : Int))
  | 0, e, h => by simp [full] at h
  | b + 1, e, h => by
    rw [full, List.mem_append] at h
    rcases h with h | h
    · obtain ⟨x, y, h1, h2, h3⟩ := mem_full h
      exact ⟨x, y, h1, by omega, h3⟩
    · obtain ⟨x, hx, h3⟩ := mem_part h
      exact ⟨x, b, hx, by omega, h3⟩
theorem full_nodup (J : Nat) : ∀ b : Nat, (full J b).Nodup
  | 0 => List.nodup_nil
  | b + 1 => by
    rw [full, List.nodup_append]
    refine ⟨full_nodup J b, part_nodup J b b, fun e he f hf hef => ?_⟩
    obtain ⟨x, y, h1, h2, h3⟩ := mem_full he
    obtain ⟨z, hz, h4⟩ := mem_part hf
    rw [h3, h4] at hef
    simp only [Prod.mk.injEq] at hef
    omega
theorem full_len (J : Nat) : ∀ b : Nat, (full J b).length ≤ tri b
  | 0 => by simp [full, tri]
  | b + 1 => by
    have h1 := full_len J b
    have h2 := part_len J b b
    rw [full, List.length_append, tri]
    omega
theorem tri_le {b : Nat} (h : b ≤ 6) : tri b ≤ 15 := by
  have : b = 0 ∨ b = 1 ∨ b = 2 ∨ b = 3 ∨ b = 4 ∨ b = 5 ∨ b = 6 := by omega
  rcases this with rfl | rfl | rfl | rfl | rfl | rfl | rfl <;> decide
theorem full_ok {J b : Nat} (h : b ≤ 6) : edgesOk (b : Int) (full J b) = true := by
  rw [edgesOk_iff]
  refine ⟨fun e he => ?_, full_nodup J b, Nat.le_trans (full_len J b) (tri_le h)⟩
  obtain ⟨x, y, h1, h2, rfl⟩ := mem_full he
  exact ⟨by simp only; omega, by simp only; omega, by simp only; omega⟩
/-- the numbers that choices make -/
def mkN (nodes : Nat) : Nat := 2 + nodes % 5
def mkL (more : Nat) : Nat := 1 + more % 3
def mkNum (nodes room more : Nat) : Num := ⟨(mkN nodes : Nat), (mkL more : Nat), (1 + room % 8 : Nat), (1 + room / 8 % 8 : Nat), (1 + more / 3 % 4 : Nat), (1 + more / 12 % 8 : Nat), 64⟩
def mkW (more k : Nat) : List Int := (List.range k).map fun i => ((1 + (i + more) % 5 : Nat) : Int)
theorem mkW_succ (more k : Nat) : mkW more (k + 1) = mkW more k ++ [((1 + (k + more) % 5 : Nat) : Int)] := by
  unfold mkW
  rw [List.range_succ, List.map_append]
  rfl
theorem mkW_len (more k : Nat) : (mkW more k).length = k := by simp [mkW]
theorem mkW_mem {more k : Nat} {x : Int} (h : x ∈ mkW more k) : 1 ≤ x ∧ x ≤ 5 := by
  unfold mkW at h
  obtain ⟨i, _, rfl⟩ := List.mem_map.1 h
  omega
theorem mkW_ok (more : Nat) : wsOk (mkW more (mkL more)) = true := by
  unfold wsOk
  rw [mkW_len]
  have h1 : (mkW more (mkL more)).all (fun x => bnd x 1 5) = true := by
    rw [List.all_eq_true]
    intro x hx
    have := mkW_mem hx
    unfold bnd
    simp [this.1, this.2]
  have h2 : 1 ≤ mkL more ∧ mkL more ≤ 3 := by unfold mkL; omega
  rw [h1]
  simp [h2.1, h2.2]
theorem mkN_b (nodes : Nat) : 2 ≤ mkN nodes ∧ mkN nodes ≤ 6 := by unfold mkN; omega
theorem mk_fine (nodes room more : Nat) : fine (mkNum nodes room more) = true := by
  have := mkN_b nodes
  have h2 : 1 ≤ mkL more ∧ mkL more ≤ 3 := by unfold mkL; omega
  unfold fine mkNum bnd
  simp only [Bool.and_eq_true, decide_eq_true_eq]
  omega
theorem mk_may (nodes room more J : Nat) : may (mkNum nodes room more) (full J (mkN nodes)) (mkW more (mkL more)) (List.replicate (mkN nodes) (mkN nodes)) = true := by
  have hN := mkN_b nodes
  have h1 := mk_fine nodes room more
  have h2 := full_ok (J := J) hN.2
  have h3 := mkW_ok more
  unfold may
  rw [h1, h3]
  have e1 : (mkNum nodes room more).nodes = (mkN nodes : Nat) := rfl
  have e2 : (mkNum nodes room more).lanes = (mkL more : Nat) := rfl
  rw [e1, e2, h2, mkW_len, List.length_replicate]
  simp
end Go.Proofs.Ytphaaolnmbadcaa.Plan
