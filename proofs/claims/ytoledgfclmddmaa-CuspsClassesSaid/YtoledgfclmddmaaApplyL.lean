/- Contracts of Reduce, Apply and of the reference's Reduce, Image, Apply. -/
import Derived.Test.YtoledgfclmddmaaCuspL
namespace Go.Proofs.Ytoledgfclmddmaa
open Go.RowKit

/-- The answer of Reduce. -/
def redE (p q : Int) : Int × Int × Int := if inE p = false ∨ inE q = false then (0, 0, 2) else if p = 0 ∧ q = 0 then (0, 0, 5) else ((low p q).1, (low p q).2, 0)
theorem redE_out {p q : Int} (h : inE p = false ∨ inE q = false) : redE p q = (0, 0, 2) := if_pos h
theorem redE_zero : redE 0 0 = (0, 0, 5) := rfl
theorem redE_yes {p q u v : Int} (hp : inE p = true) (hq : inE q = true) (h : ¬ (p = 0 ∧ q = 0)) (hl : low p q = (u, v)) : redE p q = (u, v, 0) := by
  unfold redE; rw [if_neg (by rw [hp, hq]; simp), if_neg h, hl]
/-- The answer of Apply. -/
def appE (a b c d p q : Int) : Int × Int × Int :=
  if fitB a b c d = false then (0, 0, 2) else if a * d - b * c = 0 then (0, 0, 11) else if ¬ cuspI p q = 0 then (0, 0, cuspI p q) else
  if inE (low (a * p + b * q) (c * p + d * q)).1 = false ∨ inE (low (a * p + b * q) (c * p + d * q)).2 = false then (0, 0, 7) else ((low (a * p + b * q) (c * p + d * q)).1, (low (a * p + b * q) (c * p + d * q)).2, 0)
theorem appE_1 {a b c d p q : Int} (h : fitB a b c d = false) : appE a b c d p q = (0, 0, 2) := if_pos h
theorem appE_2 {a b c d p q : Int} (h : fitB a b c d = true) (k : a * d - b * c = 0) : appE a b c d p q = (0, 0, 11) := by
  unfold appE; rw [if_neg (by rw [h]; simp), if_pos k]
theorem appE_3 {a b c d p q : Int} (h : fitB a b c d = true) (k : ¬ a * d - b * c = 0) (l : ¬ cuspI p q = 0) : appE a b c d p q = (0, 0, cuspI p q) := by
  unfold appE; rw [if_neg (by rw [h]; simp), if_neg k, if_pos l]
theorem appE_4 {a b c d p q u v : Int} (h : fitB a b c d = true) (k : ¬ a * d - b * c = 0) (l : cuspI p q = 0) (hl : low (a * p + b * q) (c * p + d * q) = (u, v)) (hu : inE u = false ∨ inE v = false) : appE a b c d p q = (0, 0, 7) := by
  unfold appE; rw [if_neg (by rw [h]; simp), if_neg k, if_neg (by omega), hl, if_pos hu]
theorem appE_5 {a b c d p q u v : Int} (h : fitB a b c d = true) (k : ¬ a * d - b * c = 0) (l : cuspI p q = 0) (hl : low (a * p + b * q) (c * p + d * q) = (u, v)) (hu : inE u = true) (hv : inE v = true) : appE a b c d p q = (u, v, 0) := by
  unfold appE; rw [if_neg (by rw [h]; simp), if_neg k, if_neg (by omega), hl, if_neg (by rw [hu, hv]; simp)]
/-- A matrix with a determinant maps what is not 0 to what is not 0. -/
theorem img_ne {a b c d p q : Int} (hd : ¬ a * d - b * c = 0) (h : ¬ (p = 0 ∧ q = 0)) : ¬ (a * p + b * q = 0 ∧ c * p + d * q = 0) := by
  rintro ⟨h1, h2⟩
  have e1 : (a * d - b * c) * p = d * (a * p + b * q) - b * (c * p + d * q) := by
    simp only [Int.sub_mul, Int.mul_add]
    rw [show a * d * p = d * (a * p) by rw [Int.mul_comm a d, Int.mul_assoc], show b * c * p = b * (c * p) by rw [Int.mul_assoc], show d * (b * q) = b * (d * q) by rw [Int.mul_left_comm]]
    omega
  have e2 : (a * d - b * c) * q = a * (c * p + d * q) - c * (a * p + b * q) := by
    simp only [Int.sub_mul, Int.mul_add]
    rw [show a * d * q = a * (d * q) by rw [Int.mul_assoc], show b * c * q = c * (b * q) by rw [Int.mul_comm b c, Int.mul_assoc], show a * (c * p) = c * (a * p) by rw [Int.mul_left_comm]]
    omega
  rw [h1, h2, Int.mul_zero, Int.mul_zero, Int.sub_zero] at e1 e2
  exact h ⟨(Int.mul_eq_zero.1 e1).resolve_left hd, (Int.mul_eq_zero.1 e2).resolve_left hd⟩
theorem cusp_ne {p q : Int} (h : cuspI p q = 0) : ¬ (p = 0 ∧ q = 0) := (cuspI_zero.1 h).2.2.ne
theorem mid_sum {x y : Int} (h1 : -1152921504606846976 ≤ x) (h2 : x ≤ 1152921504606846976) (h3 : -1152921504606846976 ≤ y) (h4 : y ≤ 1152921504606846976) : Mid (x + y) := by unfold Mid; omega

theorem below_set2a {B g : Nat} {w W : World} (h : Below B w W) (hg : B ≤ g) (hB : B ≤ W.heap.size) (v0 v1 : Value) (o : Obj) : Below B w (((W.setCell ⟨g, 0, none⟩ v0).setCell ⟨g, 1, none⟩ v1).alloc o) :=
  (below_set2 h hg v0 v1).alloc (by simp [World.setCell]; exact hB) o
end Go.Proofs.Ytoledgfclmddmaa
