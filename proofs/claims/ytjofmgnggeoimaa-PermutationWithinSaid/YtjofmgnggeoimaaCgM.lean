/- containsPrincipal, plain mathematics: the search over the matrices modulo n, and its run at the three points. -/
import Derived.Test.YtjofmgnggeoimaaCgL
import Derived.Test.YtjofmgnggeoimaaAcL
namespace Go.Proofs.Ytjofmgnggeoimaa
set_option linter.unusedVariables false

/-- The matrices found so far, and the point of each; one more. -/
def cpAdd (s : List K4 × List Nat) (x : K4) (j : Nat) : List K4 × List Nat := if s.1.contains x then s else (s.1 ++ [x], s.2 ++ [j])
def cpS (n : Int) (x : K4) : K4 := (x.2.1, (n - x.1) % n, x.2.2.2, (n - x.2.2.1) % n)
def cpT (n : Int) (x : K4) : K4 := (x.1, (x.1 + x.2.1) % n, x.2.2.1, (x.2.2.1 + x.2.2.2) % n)
/-- Behind k rounds. -/
def cpst (g f : Nat → Nat) (n : Int) : Nat → List K4 × List Nat
  | 0 => ([(1 % n, 0, 0, 1 % n)], [0])
  | k + 1 => cpAdd (cpAdd (cpst g f n k) (cpS n ((cpst g f n k).1.getD k (0, 0, 0, 0))) (g ((cpst g f n k).2.getD k 0))) (cpT n ((cpst g f n k).1.getD k (0, 0, 0, 0))) (f ((cpst g f n k).2.getD k 0))
/-- What holds in each round before the last: the matrix is there, its entries are small, and both neighbours agree. -/
def cpOk (g f : Nat → Nat) (n : Int) (m k : Nat) : Prop :=
  k < (cpst g f n k).1.length ∧ (cpst g f n k).1.length = (cpst g f n k).2.length ∧ (cpst g f n k).1.idxOf ((cpst g f n k).1.getD k (0, 0, 0, 0)) = k ∧ (cpst g f n k).2.getD k 0 < m ∧
  (∀ e ∈ [((cpst g f n k).1.getD k (0, 0, 0, 0)).1, ((cpst g f n k).1.getD k (0, 0, 0, 0)).2.1, ((cpst g f n k).1.getD k (0, 0, 0, 0)).2.2.1, ((cpst g f n k).1.getD k (0, 0, 0, 0)).2.2.2], 0 ≤ e ∧ e < n) ∧
  (cpAdd (cpst g f n k) (cpS n ((cpst g f n k).1.getD k (0, 0, 0, 0))) (g ((cpst g f n k).2.getD k 0))).2.getD ((cpAdd (cpst g f n k) (cpS n ((cpst g f n k).1.getD k (0, 0, 0, 0))) (g ((cpst g f n k).2.getD k 0))).1.idxOf (cpS n ((cpst g f n k).1.getD k (0, 0, 0, 0)))) 0 = g ((cpst g f n k).2.getD k 0) ∧
  (cpst g f n (k + 1)).2.getD ((cpst g f n (k + 1)).1.idxOf (cpT n ((cpst g f n k).1.getD k (0, 0, 0, 0)))) 0 = f ((cpst g f n k).2.getD k 0)
instance (g f : Nat → Nat) (n : Int) (m k : Nat) : Decidable (cpOk g f n m k) := by unfold cpOk; infer_instance
/-- At the three points modulo 2: six matrices, every one agrees. -/
theorem cp3 : (∀ k, k < 6 → cpOk (fnz [1, 0, 2]) (fnz [0, 2, 1]) 2 3 k) ∧ (cpst (fnz [1, 0, 2]) (fnz [0, 2, 1]) 2 6).1.length = 6 := by decide +kernel
/-- What a known matrix is told. -/
theorem cpAdd_old {s : List K4 × List Nat} {x : K4} {j : Nat} (h : s.1.contains x = true) : cpAdd s x j = s := if_pos h
theorem cpAdd_new {s : List K4 × List Nat} {x : K4} {j : Nat} (h : s.1.contains x = false) : cpAdd s x j = (s.1 ++ [x], s.2 ++ [j]) := if_neg (by rw [h]; decide)
end Go.Proofs.Ytjofmgnggeoimaa
