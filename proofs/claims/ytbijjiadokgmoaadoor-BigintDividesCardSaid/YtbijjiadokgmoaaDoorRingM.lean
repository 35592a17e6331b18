/- The order of integers under sums and products. -/
import Derived.Test.YtbijjiadokgmoaaDoorRingSt
namespace Go.Proofs.YtbijjiadokgmoaaDoor
open Go.RowKit
theorem cmpZ_anti (x y : Int) : cmpZ y x = -cmpZ x y := by
  unfold cmpZ; split <;> split <;> omega
theorem cmpZ_add (x y z : Int) : cmpZ (x + z) (y + z) = cmpZ x y := by
  unfold cmpZ; split <;> split <;> (try split) <;> omega
theorem cmpZ_mul (x y z : Int) : cmpZ (x * z) (y * z) = cmpZ x y * z.sign := by
  rcases sign_cases z with ⟨h1, h2⟩ | ⟨h1, h2⟩ | ⟨h1, h2⟩
  · rw [h1]
    rcases Int.lt_trichotomy x y with h | h | h
    · rw [cmpZ_lt h, cmpZ_gt (Int.mul_lt_mul_of_neg_right h h2)]; rfl
    · subst h; rw [cmpZ_eq, cmpZ_eq]; rfl
    · rw [cmpZ_gt h, cmpZ_lt (Int.mul_lt_mul_of_neg_right h h2)]; rfl
  · subst h2; rw [Int.mul_zero, Int.mul_zero, cmpZ_eq, h1, Int.mul_zero]
  · rw [h1, Int.mul_one]
    rcases Int.lt_trichotomy x y with h | h | h
    · rw [cmpZ_lt h, cmpZ_lt (Int.mul_lt_mul_of_pos_right h h2)]
    · subst h; rw [cmpZ_eq, cmpZ_eq]
    · rw [cmpZ_gt h, cmpZ_gt (Int.mul_lt_mul_of_pos_right h h2)]
theorem cmpZ_bd (x y : Int) : -1 ≤ cmpZ x y ∧ cmpZ x y ≤ 1 := by
  unfold cmpZ; split <;> (try split) <;> omega
theorem sign_bd (x : Int) : -1 ≤ x.sign ∧ x.sign ≤ 1 := by
  rcases sign_cases x with ⟨h, _⟩ | ⟨h, _⟩ | ⟨h, _⟩ <;> omega
theorem ring_dist (a b c : Int) : a * (b + c) = b * a + c * a := by rw [Int.mul_add, Int.mul_comm a b, Int.mul_comm a c]
theorem IntIn.keepG {w0 w W : World} {v : Value} {z : Int} (h : IntIn w0 w v z) (hg : Gr w W) : IntIn w0 W v z := h.below hg
theorem sub_is {w : World} {l1 l2 : Nat} {v1 v2 : Value} {a b r : Int} (he : a - b = r) (h1 : Raw w w.heap.size v1 a l1) (h2 : Raw w w.heap.size v2 b l2) (b1 : l1 ≤ 1000000 := by omega) (b2 : l2 ≤ 1000000 := by omega) : Calls Tryd.prog 32 #[v1, v2] w (IntRet w r) := by
  rw [← he]; exact sub_raw h1 h2 (Nat.le_refl _) b1 b2
end Go.Proofs.YtbijjiadokgmoaaDoor
