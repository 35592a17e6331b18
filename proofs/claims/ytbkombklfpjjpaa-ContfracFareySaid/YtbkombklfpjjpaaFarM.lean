/- Farey sequences by two ways, for the orders up to 60. -/
import Derived.Test.YtbkombklfpjjpaaPathM
namespace Go.Proofs.Ytbkombklfpjjpaa

/-- The code's Farey sequence behind a; b is the next element. -/
def fgo : Nat → Int → Int → Int → Int → Int → List (Int × Int)
  | 0, _, _, _, _, _ => []
  | f + 1, n, a, b, c, d => if a < b then (c, d) :: fgo f n c d ((n + b) / d * c - a) ((n + b) / d * d - b) else []
/-- All numbers on the way are small, and the way ends. -/
def fchk : Nat → Int → Int → Int → Int → Int → Bool
  | 0, _, _, _, _, _ => false
  | f + 1, n, a, b, c, d => decide (0 ≤ a ∧ a ≤ 60 ∧ 1 ≤ b ∧ b ≤ 60) &&
      (if a < b then decide (0 ≤ c ∧ c ≤ 60 ∧ 1 ≤ d ∧ d ≤ 60) && fchk f n c d ((n + b) / d * c - a) ((n + b) / d * d - b) else true)
def far (n : Int) : List (Int × Int) := (0, 1) :: fgo 1200 n 0 1 1 n
/-- The reference's insertion, into the list backwards. -/
def insR (p q : Int) : List (Int × Int) → List (Int × Int)
  | [] => [(p, q)]
  | y :: ys => if p * y.2 < y.1 * q then y :: insR p q ys else (p, q) :: y :: ys
/-- All fractions p/q .. with the denominator q, from p on, k of them. -/
def insQ (q : Int) : Nat → Int → List (Int × Int) → List (Int × Int)
  | 0, _, R => R
  | k + 1, p, R => insQ q k (p + 1) (if Int.gcd p q = 1 then insR p q R else R)
def nbsB : List (Int × Int) → Bool
  | u :: v :: l => decide (u.1 * v.2 - v.1 * u.2 = 1 ∨ u.1 * v.2 - v.1 * u.2 = -1) && decide (0 ≤ u.1 ∧ u.1 ≤ 60 ∧ 0 ≤ u.2 ∧ u.2 ≤ 60) && nbsB (v :: l)
  | [u] => decide (0 ≤ u.1 ∧ u.1 ≤ 60 ∧ 0 ≤ u.2 ∧ u.2 ≤ 60)
  | [] => true
def prevR (q : Nat) : List (Int × Int) := if q = 1 then [] else (far (q - 1 : Nat)).reverse
def okQ (q : Nat) : Bool := decide (insQ q (q + 1) 0 (prevR q) = (far q).reverse) && fchk 1200 q 0 1 1 q && nbsB (far q) && decide ((far q).length ≤ 1200)
end Go.Proofs.Ytbkombklfpjjpaa
