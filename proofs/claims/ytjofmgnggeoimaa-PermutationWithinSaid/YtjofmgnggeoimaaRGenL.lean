/- Contracts of the reference's S, T, One and of its products with them. -/
import Derived.Test.YtjofmgnggeoimaaDetL
import Derived.Test.YtjofmgnggeoimaaDetX
namespace Go.Proofs.Ytjofmgnggeoimaa
open Go.RowKit

set_option maxHeartbeats 400000 in
theorem rS_any (w : World) : Calls Try.prog 67 #[] w fun e w' => e = .returned (.agg #[.int .i64 0, .int .i64 (-1), .int .i64 1, .int .i64 0]) ∧ Below w.heap.size w w' := by
  go_enter Try.func67, Try.ntmps67
  go_wp2
  refine bodyPost_ret (v := .agg #[.int .i64 0, .int .i64 (-1), .int .i64 1, .int .i64 0]) ?_ rfl ⟨rfl, below1 _ _⟩
  simp [results, Try.results67, go_sem]
set_option maxHeartbeats 400000 in
theorem rT_any (n : Int) (w : World) : Calls Try.prog 68 #[.int .i64 n] w fun e w' => e = .returned (.agg #[.int .i64 1, .int .i64 n, .int .i64 0, .int .i64 1]) ∧ Below w.heap.size w w' := by
  go_enter Try.func68, Try.ntmps68
  go_wp2
  refine bodyPost_ret (v := .agg #[.int .i64 1, .int .i64 n, .int .i64 0, .int .i64 1]) ?_ rfl ⟨rfl, below1 _ _⟩
  simp [results, Try.results68, go_sem]
theorem backS_any (w : World) : Calls Try.prog 66 #[.agg #[.int .i64 0, .int .i64 (-1), .int .i64 1, .int .i64 0]] w fun e w' => e = .returned (.agg #[.int .i64 0, .int .i64 1, .int .i64 (-1), .int .i64 0]) ∧ Below w.heap.size w w' :=
  back_any 0 (-1) 1 0 w (by decide)
theorem fit_T {q : Int} (h1 : -1073741824 ≤ q) (h2 : q ≤ 1073741824) : fitB 1 q 0 1 = true := fitB_iff.2 ⟨by omega, ⟨h1, h2⟩, by omega, by omega⟩
theorem timesT_any (q a b c d : Int) (w : World) (h1 : -1073741824 ≤ q) (h2 : q ≤ 1073741824) (h : fitB a b c d = true) :
    Calls Try.prog 65 #[.agg #[.int .i64 1, .int .i64 (-q), .int .i64 0, .int .i64 1], .agg #[.int .i64 a, .int .i64 b, .int .i64 c, .int .i64 d]] w fun e w' =>
      e = .returned (.agg #[.int .i64 (a - q * c), .int .i64 (b - q * d), .int .i64 c, .int .i64 d]) ∧ Below w.heap.size w w' := by
  have k := times_yes 1 (-q) 0 1 a b c d w (fit_T (by omega) (by omega)) h
  rw [show 1 * a + -q * c = a - q * c by rw [Int.neg_mul]; omega, show 1 * b + -q * d = b - q * d by rw [Int.neg_mul]; omega, show 0 * a + 1 * c = c by omega, show 0 * b + 1 * d = d by omega] at k
  exact k
theorem timesB_any (x y z u x' y' : Int) (w : World) (h : fitB x y z u = true) (hx : x' = -x) (hy : y' = -y) :
    Calls Try.prog 65 #[.agg #[.int .i64 0, .int .i64 1, .int .i64 (-1), .int .i64 0], .agg #[.int .i64 x, .int .i64 y, .int .i64 z, .int .i64 u]] w fun e w' =>
      e = .returned (.agg #[.int .i64 z, .int .i64 u, .int .i64 x', .int .i64 y']) ∧ Below w.heap.size w w' := by
  have k := times_yes 0 1 (-1) 0 x y z u w (by decide) h
  rw [show 0 * x + 1 * z = z by omega, show 0 * y + 1 * u = u by omega, show -1 * x + 0 * z = x' by omega, show -1 * y + 0 * u = y' by omega] at k
  exact k
end Go.Proofs.Ytjofmgnggeoimaa
