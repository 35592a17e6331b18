/- Contracts of Det, Check, product and of the reference's Det, Check, Times, Back, Minus. -/
import Derived.Test.YtlagljnhbhnelaaEntL
namespace Go.Proofs.Ytlagljnhbhnelaa
open Go.RowKit

/-- The answer of Check. -/
def chkI (a b c d : Int) : Int := if fitB a b c d = false then 2 else if a * d - b * c = 1 then 0 else 12
theorem chk_cases (a b c d : Int) : (fitB a b c d = false ∧ chkI a b c d = 2) ∨ (fitB a b c d = true ∧ a * d - b * c = 1 ∧ chkI a b c d = 0) ∨ (fitB a b c d = true ∧ a * d - b * c ≠ 1 ∧ chkI a b c d = 12) := by
  unfold chkI
  cases h : fitB a b c d with
  | false => exact .inl ⟨rfl, if_pos rfl⟩
  | true =>
    right
    rw [if_neg (by simp)]
    by_cases k : a * d - b * c = 1
    · exact .inl ⟨rfl, k, if_pos k⟩
    · exact .inr ⟨rfl, k, if_neg k⟩

/-- The answer of Det. -/
def detE (a b c d : Int) : Int × Int := if fitB a b c d = false then (0, 2) else (a * d - b * c, 0)
theorem detE_no {a b c d : Int} (h : fitB a b c d = false) : detE a b c d = (0, 2) := if_pos h
theorem detE_yes {a b c d : Int} (h : fitB a b c d = true) : detE a b c d = (a * d - b * c, 0) := if_neg (by rw [h]; simp)
end Go.Proofs.Ytlagljnhbhnelaa
