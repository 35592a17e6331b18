/- The contract of the reference's AtkinLehner. -/
import Derived.Test.YtoledgfclmddmaaAtkL
namespace Go.Proofs.Ytoledgfclmddmaa
open Go.RowKit

theorem AtkE.unique {n q a b c d k a' b' c' d' k' : Int} (h : AtkE n q a b c d k) (h' : AtkE n q a' b' c' d' k') : a = a' ∧ b = b' ∧ c = c' ∧ d = d' ∧ k = k' := by
  cases h <;> cases h' <;> (try (simp at *; done)) <;> (try omega)
  all_goals (try (exact ⟨rfl, rfl, rfl, rfl, rfl⟩))
  rename_i x _ _ _ _ hg hx y _ _ _ _ _ hy
  have := hx.unique hy hg
  subst this
  exact ⟨rfl, rfl, rfl, rfl, rfl⟩
end Go.Proofs.Ytoledgfclmddmaa
