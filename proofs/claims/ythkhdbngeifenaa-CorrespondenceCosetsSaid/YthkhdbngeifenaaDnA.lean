/- Leaves of the dimensions: weights, factors, powers, exponents, local factors. -/
import Derived.Test.YthkhdbngeifenaaDimM
import Derived.Test.YthkhdbngeifenaaFunL
namespace Go.Proofs.Ythkhdbngeifenaa
open Go.RowKit
set_option linter.unusedVariables false
set_option linter.unusedSimpArgs false

set_option maxHeartbeats 800000 in
theorem isw_any (k : Int) (w : World) : Calls Try.prog 20 #[.int .i64 k] w fun e w' => e = .returned (.bool (decide (2 ≤ k ∧ k ≤ 24))) ∧ w = w' := by
  by_cases h1 : 2 ≤ k
  · by_cases h2 : k ≤ 24
    · rw [decide_eq_true ⟨h1, h2⟩]
      go_enter Try.func20, Try.ntmps20
      go_wp2
      go_ret
      exact ⟨rfl, rfl⟩
    · rw [decide_eq_false (by omega)]
      go_enter Try.func20, Try.ntmps20
      go_wp2
      go_ret
      exact ⟨rfl, rfl⟩
  · rw [decide_eq_false (by omega)]
    go_enter Try.func20, Try.ntmps20
    go_wp2
    go_ret
    exact ⟨rfl, rfl⟩
/-- Powers below a bound. -/
theorem pow_le_of {p n b : Nat} (hp : 2 ≤ p) (h : p ^ n ≤ b) : ∀ j, j ≤ n → p ^ j ≤ b := fun j hj => Nat.le_trans (Nat.pow_le_pow_right (by omega) hj) h
end Go.Proofs.Ythkhdbngeifenaa
