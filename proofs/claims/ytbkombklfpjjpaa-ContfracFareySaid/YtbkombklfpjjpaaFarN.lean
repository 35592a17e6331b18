/- Farey sequences by two ways, for the orders up to 60: the insertion. -/
import Derived.Test.YtbkombklfpjjpaaFarM
namespace Go.Proofs.Ytbkombklfpjjpaa

open Classical in
/-- Where the reference inserts p/q into C, of whose elements the first k are looked at from behind. -/
noncomputable def posf (C : List (Int × Int)) (p q : Int) : Nat → Nat
  | 0 => 0
  | k + 1 => if (∃ y, C[k]? = some y ∧ p * y.2 < y.1 * q) then posf C p q k else k + 1
theorem posf_le (C : List (Int × Int)) (p q : Int) : ∀ k, posf C p q k ≤ k
  | 0 => Nat.le_refl _
  | k + 1 => by
    unfold posf
    split
    · exact Nat.le_succ_of_le (posf_le C p q k)
    · exact Nat.le_refl _
theorem posf_yes {C : List (Int × Int)} {p q : Int} {k : Nat} {y : Int × Int} (hy : C[k]? = some y) (h : p * y.2 < y.1 * q) : posf C p q (k + 1) = posf C p q k := if_pos ⟨y, hy, h⟩
theorem posf_no {C : List (Int × Int)} {p q : Int} {k : Nat} {y : Int × Int} (hy : C[k]? = some y) (h : ¬ p * y.2 < y.1 * q) : posf C p q (k + 1) = k + 1 := if_neg (by rintro ⟨z, hz, hz2⟩; rw [hy] at hz; cases hz; exact h hz2)
theorem posf_app {D : List (Int × Int)} {y : Int × Int} {p q : Int} : ∀ k, k ≤ D.length → posf (D ++ [y]) p q k = posf D p q k
  | 0, _ => rfl
  | k + 1, h => by
    have e : (D ++ [y])[k]? = D[k]? := List.getElem?_append_left (by omega)
    unfold posf
    rw [e, posf_app k (by omega)]
/-- The reference's insertion. -/
noncomputable def ins (C : List (Int × Int)) (p q : Int) : List (Int × Int) := C.take (posf C p q C.length) ++ (p, q) :: C.drop (posf C p q C.length)
theorem ins_len (C : List (Int × Int)) (p q : Int) : (ins C p q).length = C.length + 1 := by
  have := posf_le C p q C.length
  unfold ins; simp; omega
theorem ins_mem {C : List (Int × Int)} {p q : Int} {z : Int × Int} (h : z ∈ ins C p q) : z ∈ C ∨ z = (p, q) := by
  unfold ins at h
  rcases List.mem_append.1 h with h | h
  · exact .inl (List.mem_of_mem_take h)
  · rcases List.mem_cons.1 h with h | h
    · exact .inr h
    · exact .inl (List.mem_of_mem_drop h)
theorem ins_snoc {D : List (Int × Int)} {y : Int × Int} {p q : Int} : ins (D ++ [y]) p q = if p * y.2 < y.1 * q then ins D p q ++ [y] else D ++ [y, (p, q)] := by
  have hy : (D ++ [y])[D.length]? = some y := by simp
  have hl : (D ++ [y]).length = D.length + 1 := by simp
  have hle := posf_le D p q D.length
  by_cases h : p * y.2 < y.1 * q
  · rw [if_pos h]
    unfold ins
    rw [hl, posf_yes hy h, posf_app _ (Nat.le_refl _), List.take_append_of_le_length hle, List.drop_append_of_le_length hle]
    simp
  · rw [if_neg h]
    unfold ins
    rw [hl, posf_no hy h, List.take_of_length_le (by rw [hl]; exact Nat.le_refl _), List.drop_of_length_le (by rw [hl]; exact Nat.le_refl _)]
    simp
theorem insR_rev : ∀ (R : List (Int × Int)) (p q : Int), (insR p q R).reverse = ins R.reverse p q
  | [], p, q => by simp [insR, ins, posf]
  | y :: R, p, q => by
    rw [List.reverse_cons, ins_snoc]
    unfold insR
    by_cases h : p * y.2 < y.1 * q
    · rw [if_pos h, if_pos h, List.reverse_cons, insR_rev R p q]
    · rw [if_neg h, if_neg h]; simp
/-- What the reference has made behind the denominator q, backwards. -/
def sR : Nat → List (Int × Int)
  | 0 => []
  | q + 1 => insQ ((q + 1 : Nat) : Int) (q + 2) 0 (sR q)
theorem ok_parts {q : Nat} (h : okQ q = true) : insQ q (q + 1) 0 (prevR q) = (far q).reverse ∧ fchk 1200 q 0 1 1 q = true ∧ nbsB (far q) = true ∧ (far q).length ≤ 1200 := by
  unfold okQ at h
  rw [Bool.and_eq_true, Bool.and_eq_true, Bool.and_eq_true, decide_eq_true_eq, decide_eq_true_eq] at h
  exact ⟨h.1.1.1, h.1.1.2, h.1.2, h.2⟩
theorem sR_far (hall : ∀ q : Nat, 1 ≤ q → q ≤ 60 → okQ q = true) : ∀ q : Nat, 1 ≤ q → q ≤ 60 → sR q = (far q).reverse
  | q + 1, _, h2 => by
    have hk := (ok_parts (hall (q + 1) (by omega) h2)).1
    show insQ ((q + 1 : Nat) : Int) (q + 2) 0 (sR q) = _
    have e : sR q = prevR (q + 1) := by
      unfold prevR
      by_cases hq : q = 0
      · subst hq; rfl
      · rw [if_neg (by omega), sR_far hall q (by omega) (by omega)]; rfl
    rw [e]; exact hk
end Go.Proofs.Ytbkombklfpjjpaa
