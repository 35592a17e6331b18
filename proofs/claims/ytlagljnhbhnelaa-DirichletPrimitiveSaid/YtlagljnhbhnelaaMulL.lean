/- Contracts of Mul, Inverse and of the reference's Mul. -/
import Derived.Test.YtlagljnhbhnelaaDetL
namespace Go.Proofs.Ytlagljnhbhnelaa
open Go.RowKit

/-- The answer of Mul. -/
def mulE (x y : M) : M × Int := if (x.ok && y.ok) = false then (.zero, 2) else if (x.mul y).ok = false then (.zero, 7) else (x.mul y, 0)
theorem mulE_out {x y : M} (h : x.ok = false ∨ y.ok = false) : mulE x y = (.zero, 2) := if_pos (by rcases h with h | h <;> rw [h] <;> simp)
theorem mulE_large {x y : M} (hx : x.ok = true) (hy : y.ok = true) (h : (x.mul y).ok = false) : mulE x y = (.zero, 7) := by
  unfold mulE; rw [hx, hy, if_neg (by simp), if_pos h]
theorem mulE_ok {x y : M} (hx : x.ok = true) (hy : y.ok = true) (h : (x.mul y).ok = true) : mulE x y = (x.mul y, 0) := by
  unfold mulE; rw [hx, hy, if_neg (by simp), if_neg (by rw [h]; simp)]
/-- The answer of Inverse. -/
def invE (x : M) : M × Int := if chkI x.a x.b x.c x.d = 0 then (x.inv, 0) else (.zero, chkI x.a x.b x.c x.d)

end Go.Proofs.Ytlagljnhbhnelaa
