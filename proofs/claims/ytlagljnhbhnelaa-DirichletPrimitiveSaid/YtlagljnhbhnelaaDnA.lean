/- Leaves of the dimensions: weights, factors, powers, exponents, local factors. -/
import Derived.Test.YtlagljnhbhnelaaDimM
import Derived.Test.YtlagljnhbhnelaaFunL
namespace Go.Proofs.Ytlagljnhbhnelaa
open Go.RowKit
set_option linter.unusedVariables false
set_option linter.unusedSimpArgs false

/-- Powers below a bound. -/
theorem pow_le_of {p n b : Nat} (hp : 2 ≤ p) (h : p ^ n ≤ b) : ∀ j, j ≤ n → p ^ j ≤ b := fun j hj => Nat.le_trans (Nat.pow_le_pow_right (by omega) hj) h
end Go.Proofs.Ytlagljnhbhnelaa
