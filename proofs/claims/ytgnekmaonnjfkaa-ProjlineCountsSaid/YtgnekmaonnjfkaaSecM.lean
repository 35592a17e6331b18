/- The plain functions of seconds and list, and what their loops do. -/
import Derived.Test.YtgnekmaonnjfkaaPtM
namespace Go.Proofs.Ytgnekmaonnjfkaa
set_option linter.unusedVariables false

def unitsN (n : Nat) : List Nat := (List.range n).filter fun t => Nat.gcd t n == 1
def fixN (n u : Nat) : List Nat := (unitsN n).filter fun t => t * u % n == u
/-- The row as far as v. -/
def rwv (n u v : Nat) : List Nat := (List.range v).filter (ptB n u)
/-- What is marked before v. -/
def sn (n u v j : Nat) : Bool := (List.range v).any fun v' => ptB n u v' && (fixN n u).any fun t => t * v' % n == j
theorem rwv_row (n u : Nat) : rwv n u n = row n u := rfl
theorem mem_units {n t : Nat} : t ∈ unitsN n ↔ t < n ∧ Nat.gcd t n = 1 := by unfold unitsN; simp
theorem mem_fix {n u t : Nat} : t ∈ fixN n u ↔ (t < n ∧ Nat.gcd t n = 1) ∧ t * u % n = u := by unfold fixN; rw [List.mem_filter, mem_units]; simp
theorem sn_iff {n u v j : Nat} : sn n u v j = true ↔ ∃ v', v' < v ∧ ptB n u v' = true ∧ ∃ t, t < n ∧ Nat.gcd t n = 1 ∧ t * u % n = u ∧ t * v' % n = j := by
  unfold sn
  simp only [List.any_eq_true, List.mem_range, Bool.and_eq_true, beq_iff_eq, mem_fix]
  constructor
  · rintro ⟨v', h1, h2, t, ⟨⟨h3, h4⟩, h5⟩, h6⟩; exact ⟨v', h1, h2, t, h3, h4, h5, h6⟩
  · rintro ⟨v', h1, h2, t, h3, h4, h5, h6⟩; exact ⟨v', h1, h2, t, ⟨⟨h3, h4⟩, h5⟩, h6⟩
theorem sn_zero (n u j : Nat) : sn n u 0 j = false := rfl
theorem sn_succ (n u v j : Nat) : sn n u (v + 1) j = (sn n u v j || (ptB n u v && (fixN n u).any fun t => t * v % n == j)) := by
  unfold sn; rw [List.range_succ, List.any_append]; simp
theorem rwv_succ (n u v : Nat) : rwv n u (v + 1) = if ptB n u v = true then rwv n u v ++ [v] else rwv n u v := by
  unfold rwv
  rw [List.range_succ, List.filter_append]
  by_cases h : ptB n u v = true
  · rw [if_pos h, List.filter_cons_of_pos h]; rfl
  · rw [if_neg h, List.filter_cons_of_neg h]; simp
theorem sec_yes {n u v : Nat} (n1 : 1 ≤ n) (hu1 : u < n) (hu : u = 0 ∨ u ∣ n) (hv : v < n) (hs : sn n u v v = false) (hg : Nat.gcd (Nat.gcd u n) v = 1) :
    rwv n u (v + 1) = rwv n u v ++ [v] ∧ ∀ j, sn n u (v + 1) j = (sn n u v j || (fixN n u).any fun t => t * v % n == j) := by
  have h : ptB n u v = true := (emit n1 hu1 hu hv).2 ⟨hg, fun h => by rw [sn_iff.2 h] at hs; cases hs⟩
  exact ⟨by rw [rwv_succ, if_pos h], fun j => by rw [sn_succ, h, Bool.true_and]⟩
theorem sec_no {n u v : Nat} (n1 : 1 ≤ n) (hu1 : u < n) (hu : u = 0 ∨ u ∣ n) (hv : v < n) (h : sn n u v v = true ∨ ¬ Nat.gcd (Nat.gcd u n) v = 1) :
    rwv n u (v + 1) = rwv n u v ∧ ∀ j, sn n u (v + 1) j = sn n u v j := by
  have h : ¬ ptB n u v = true := fun hp => by
    have := (emit n1 hu1 hu hv).1 hp
    rcases h with h | h
    · exact this.2 (sn_iff.1 h)
    · exact h this.1
  have h2 : ptB n u v = false := by cases hb : ptB n u v <;> simp_all
  exact ⟨by rw [rwv_succ, if_neg h], fun j => by rw [sn_succ, h2, Bool.false_and, Bool.or_false]⟩
theorem rwv_len (n u v : Nat) : (rwv n u v).length ≤ v := by
  unfold rwv; exact Nat.le_trans (List.length_filter_le _ _) (by rw [List.length_range]; exact Nat.le_refl _)
theorem units_len (n : Nat) : (unitsN n).length ≤ n := by
  unfold unitsN; exact Nat.le_trans (List.length_filter_le _ _) (by rw [List.length_range]; exact Nat.le_refl _)
theorem fix_len (n u : Nat) : (fixN n u).length ≤ n := Nat.le_trans (List.length_filter_le _ _) (units_len n)
theorem row_len (n u : Nat) : (row n u).length ≤ n := rwv_len n u n
/-- The points of the rows before u. -/
def ptu (n u : Nat) : List (Nat × Nat) := (List.range u).flatMap fun u' => (row n u').map fun v => (u', v)
theorem ptu_pts (n : Nat) : ptu n n = pts n := rfl
theorem ptu_succ (n u : Nat) : ptu n (u + 1) = ptu n u ++ (row n u).map fun v => (u, v) := by
  unfold ptu; rw [List.range_succ, List.flatMap_append]; simp
theorem ptu_len (n : Nat) : ∀ u, (ptu n u).length ≤ n * u
  | 0 => by simp [ptu]
  | u + 1 => by
    rw [ptu_succ, List.length_append, List.length_map, Nat.mul_succ]
    have := ptu_len n u
    have := row_len n u
    omega
theorem filter_take_succ {α : Type} (p : α → Bool) (l : List α) (k : Nat) (h : k < l.length) : (l.take (k + 1)).filter p = if p l[k] = true then (l.take k).filter p ++ [l[k]] else (l.take k).filter p := by
  rw [List.take_add_one, List.getElem?_eq_getElem h, Option.toList_some, List.filter_append]
  by_cases hp : p l[k] = true
  · rw [if_pos hp, List.filter_cons_of_pos hp]; rfl
  · rw [if_neg hp, List.filter_cons_of_neg hp]; simp
theorem any_take_succ {α : Type} (p : α → Bool) (l : List α) (k : Nat) (h : k < l.length) : (l.take (k + 1)).any p = ((l.take k).any p || p l[k]) := by
  rw [List.take_add_one, List.getElem?_eq_getElem h, Option.toList_some, List.any_append]; simp
end Go.Proofs.Ytgnekmaonnjfkaa
