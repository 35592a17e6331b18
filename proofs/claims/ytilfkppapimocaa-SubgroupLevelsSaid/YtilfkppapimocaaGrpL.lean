/- The contracts of Check and Has of all groups, and of the reference's. -/
import Derived.Test.YtilfkppapimocaaDetL
import Derived.Test.YtilfkppapimocaaBoxL
import Derived.Test.YtilfkppapimocaaLawK
namespace Go.Proofs.Ytilfkppapimocaa
open Go.RowKit
set_option linter.unusedVariables false
set_option linter.unusedSimpArgs false

/-- The error of a group. -/
def gckI (k n : Int) : Int := if k < 1 ∨ 4 < k then 20 else if n < 1 ∨ 120 < n then 2 else 0
theorem gck_cases (k n : Int) : ((k < 1 ∨ 4 < k) ∧ gckI k n = 20) ∨ ((1 ≤ k ∧ k ≤ 4) ∧ (n < 1 ∨ 120 < n) ∧ gckI k n = 2) ∨ ((1 ≤ k ∧ k ≤ 4) ∧ (1 ≤ n ∧ n ≤ 120) ∧ gckI k n = 0) := by
  unfold gckI
  by_cases h : k < 1 ∨ 4 < k
  · exact .inl ⟨h, if_pos h⟩
  · by_cases h2 : n < 1 ∨ 120 < n
    · exact .inr (.inl ⟨by omega, h2, by rw [if_neg h, if_pos h2]⟩)
    · exact .inr (.inr ⟨by omega, by omega, by rw [if_neg h, if_neg h2]⟩)
theorem four_kinds {k : Int} (h : 1 ≤ k ∧ k ≤ 4) : k = 1 ∨ k = 2 ∨ k = 3 ∨ k = 4 := by omega
/-- Whether a matrix is in a group. -/
def hasV (k n a b c d : Int) : Bool :=
  if k = 1 then c.tmod n == 0 else if k = 2 then c.tmod n == 0 && ((a - 1).tmod n == 0 && (d - 1).tmod n == 0) else if k = 3 then c.tmod n == 0 && ((a - 1).tmod n == 0 && (d - 1).tmod n == 0) && b.tmod n == 0 else b.tmod n == 0
def hasE (k n a b c d : Int) : Int := if gckI k n = 0 then chkI a b c d else gckI k n
def hasR (k n a b c d : Int) : Bool := if hasE k n a b c d = 0 then hasV k n a b c d else false
set_option maxHeartbeats 800000 in
set_option maxRecDepth 1000000 in
theorem gcheck_any (k n : Int) (w : World) : Calls Try.prog 15 #[.agg #[.int .i64 k, .int .i64 n]] w fun e w' => e = .returned (.int .i64 (gckI k n)) ∧ Below w.heap.size w w' := by
  rcases gck_cases k n with ⟨h, e⟩ | ⟨h, h2, e⟩ | ⟨h, h2, e⟩
  · rw [e]
    clear e
    have d1 : (k == 1) = false := by rw [beq_eq_false_iff_ne]; omega
    have d2 : (k == 2) = false := by rw [beq_eq_false_iff_ne]; omega
    have d3 : (k == 3) = false := by rw [beq_eq_false_iff_ne]; omega
    have d4 : (k == 4) = false := by rw [beq_eq_false_iff_ne]; omega
    clear h
    go_enter Try.func15, Try.ntmps15
    go_wp2
    go_ret
    exact ⟨rfl, below1 _ _⟩
  all_goals
    rw [e]
    clear e
    rcases four_kinds h with rfl | rfl | rfl | rfl
  iterate 4
    clear h
    rcases h2 with h2 | h2
    · have d1 : decide (n < 1) = true := by simp; omega
      go_enter Try.func15, Try.ntmps15
      go_wp2
      go_ret
      exact ⟨rfl, below1 _ _⟩
    · have d1 : decide (n < 1) = false := by simp; omega
      have d2 : decide (120 < n) = true := by simp; omega
      go_enter Try.func15, Try.ntmps15
      go_wp2
      go_ret
      exact ⟨rfl, below1 _ _⟩
  all_goals
    clear h
    have d1 : decide (n < 1) = false := by simp; omega
    have d2 : decide (120 < n) = false := by simp; omega
    go_enter Try.func15, Try.ntmps15
    go_wp2
    go_ret
    exact ⟨rfl, below1 _ _⟩
set_option maxHeartbeats 800000 in
set_option maxRecDepth 1000000 in
theorem rgcheck_any (k n : Int) (w : World) : Calls Try.prog 16 #[.agg #[.int .i64 k, .int .i64 n]] w fun e w' => e = .returned (.int .i64 (gckI k n)) ∧ Below w.heap.size w w' := by
  rcases gck_cases k n with ⟨h, e⟩ | ⟨h, h2, e⟩ | ⟨h, h2, e⟩
  · rw [e]
    clear e
    rcases h with h | h
    · have d1 : decide (k < 1) = true := by simp; omega
      go_enter Try.func16, Try.ntmps16
      go_wp2
      go_ret
      exact ⟨rfl, below1 _ _⟩
    · have d1 : decide (k < 1) = false := by simp; omega
      have d2 : decide (4 < k) = true := by simp; omega
      go_enter Try.func16, Try.ntmps16
      go_wp2
      go_ret
      exact ⟨rfl, below1 _ _⟩
  · rw [e]
    clear e
    have d1 : decide (k < 1) = false := by simp; omega
    have d2 : decide (4 < k) = false := by simp; omega
    rcases h2 with h2 | h2
    · have d3 : decide (n < 1) = true := by simp; omega
      go_enter Try.func16, Try.ntmps16
      go_wp2
      go_ret
      exact ⟨rfl, below1 _ _⟩
    · have d3 : decide (n < 1) = false := by simp; omega
      have d4 : decide (120 < n) = true := by simp; omega
      go_enter Try.func16, Try.ntmps16
      go_wp2
      go_ret
      exact ⟨rfl, below1 _ _⟩
  · rw [e]
    clear e
    have d1 : decide (k < 1) = false := by simp; omega
    have d2 : decide (4 < k) = false := by simp; omega
    have d3 : decide (n < 1) = false := by simp; omega
    have d4 : decide (120 < n) = false := by simp; omega
    go_enter Try.func16, Try.ntmps16
    go_wp2
    go_ret
    exact ⟨rfl, below1 _ _⟩
end Go.Proofs.Ytilfkppapimocaa
