/- Plain mathematics of chains: the common part of two lists. -/
import Derived.Test.YtbkombklfpjjpaaPathM
namespace Go.Proofs.Ytbkombklfpjjpaa

/-- How many elements two lists have in common at their heads. -/
def cpl : List (Int × Int) → List (Int × Int) → Nat
  | a :: x, b :: y => if a = b then cpl x y + 1 else 0
  | _, _ => 0
theorem cpl_le : ∀ (x y : List (Int × Int)), cpl x y ≤ x.length ∧ cpl x y ≤ y.length
  | [], y => by simp [cpl]
  | a :: x, [] => by simp [cpl]
  | a :: x, b :: y => by
    have := cpl_le x y
    unfold cpl
    split <;> simp <;> omega
theorem cpl_step : ∀ (x y : List (Int × Int)) (k : Nat) (hx : k < x.length) (hy : k < y.length), k ≤ cpl x y → x[k] = y[k] → k + 1 ≤ cpl x y
  | a :: x, b :: y, 0, _, _, _, h => by
    have h' : a = b := h
    unfold cpl; rw [if_pos h']; omega
  | a :: x, b :: y, k + 1, hx, hy, hk, h => by
    unfold cpl at hk ⊢
    by_cases e : a = b
    · rw [if_pos e] at hk ⊢
      have := cpl_step x y k (by simpa using hx) (by simpa using hy) (by omega) (by simpa using h)
      omega
    · rw [if_neg e] at hk; omega
theorem cpl_same : ∀ (x y : List (Int × Int)) (k : Nat), k < cpl x y → ∀ (hx : k < x.length) (hy : k < y.length), x[k] = y[k]
  | a :: x, b :: y, 0, hk, _, _ => by
    unfold cpl at hk
    by_cases e : a = b
    · exact e
    · rw [if_neg e] at hk; omega
  | a :: x, b :: y, k + 1, hk, hx, hy => by
    unfold cpl at hk
    by_cases e : a = b
    · rw [if_pos e] at hk
      simpa using cpl_same x y k (by omega) (by simpa using hx) (by simpa using hy)
    · rw [if_neg e] at hk; omega
theorem cpl_stop {x y : List (Int × Int)} {k : Nat} (hk : k ≤ cpl x y) (h : ∀ (hx : k < x.length) (hy : k < y.length), x[k] ≠ y[k]) : k = cpl x y := by
  have hl := cpl_le x y
  rcases Nat.lt_or_ge k (cpl x y) with c | c
  · exact absurd (cpl_same x y k c (by omega) (by omega)) (h _ _)
  · omega
theorem cpl_comm : ∀ (x y : List (Int × Int)), cpl x y = cpl y x
  | [], [] => rfl
  | [], b :: y => by simp [cpl]
  | a :: x, [] => by simp [cpl]
  | a :: x, b :: y => by
    unfold cpl
    by_cases e : a = b
    · rw [if_pos e, if_pos e.symm, cpl_comm x y]
    · rw [if_neg e, if_neg (fun h => e h.symm)]
theorem cpl_take : ∀ (x y : List (Int × Int)), x.take (cpl x y) = y.take (cpl x y)
  | [], y => by simp [cpl]
  | a :: x, [] => by simp [cpl]
  | a :: x, b :: y => by
    unfold cpl
    by_cases e : a = b
    · rw [if_pos e, List.take_succ_cons, List.take_succ_cons, cpl_take x y, e]
    · rw [if_neg e]; rfl
/-- The chain of two paths. -/
def chn (x y : List (Int × Int)) : List (Int × Int) := (x.drop (cpl x y - 1)).reverse ++ y.drop (cpl x y)
/-- On the way down: k elements are appended. -/
theorem rev_next {x : List (Int × Int)} {k : Nat} (h : k < x.length) : (x.drop (x.length - k)).reverse ++ [x[x.length - k - 1]] = (x.drop (x.length - (k + 1))).reverse := by
  have e : x.length - (k + 1) = x.length - k - 1 := by omega
  rw [e, List.drop_eq_getElem_cons (show x.length - k - 1 < x.length by omega), List.reverse_cons, show x.length - k - 1 + 1 = x.length - k by omega]
end Go.Proofs.Ytbkombklfpjjpaa
