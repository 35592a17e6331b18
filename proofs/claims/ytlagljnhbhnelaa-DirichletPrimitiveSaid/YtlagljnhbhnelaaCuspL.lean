/- Contracts of CheckCusp, reduced, Reduce, Apply and of the reference's CheckCusp, Lowest, Reduce, Image, Apply. -/
import Derived.Test.YtlagljnhbhnelaaGcdL
import Derived.Test.YtlagljnhbhnelaaCuspM
import Derived.Test.YtlagljnhbhnelaaDetL
import Derived.Deep.RegionHeld3
import Derived.RegionTactic
namespace Go.Proofs.Ytlagljnhbhnelaa
open Go.RowKit

theorem mid_entry {n : Int} (h : inE n = true) : Mid n := by have := inE_iff.1 h; unfold Mid; omega
theorem gcd_ne {p q : Int} {g : Nat} (hg : g = Int.gcd p q) (h : ¬ Int.gcd p q = 1) : ((g : Int) != 1) = true := by rw [bne_iff_ne]; omega
theorem gcd_pos_int {p q : Int} (h : ¬ (p = 0 ∧ q = 0)) : 1 ≤ (Int.gcd p q : Int) := by have := gcd_pos_of h; omega
theorem wrap_neg_tdiv {p : Int} (hp : Mid p) (g : Int) : wrap64 (-p.tdiv g) = -p.tdiv g := by
  have h : (p.tdiv g).natAbs ≤ p.natAbs := by rw [Int.natAbs_tdiv]; exact Nat.div_le_self _ _
  unfold Mid at hp
  exact IntWalk.wrap64_in _ (by omega)
theorem tdiv_lt_zero {p g : Int} (hg : 1 ≤ g) (hd : g ∣ p) (h : p < 0) : p.tdiv g < 0 := by
  obtain ⟨x, rfl⟩ := hd
  rw [Int.mul_tdiv_cancel_left x (by omega)]
  exact Int.not_le.1 fun k => Int.not_le.2 h (Int.mul_nonneg (by omega) k)
theorem tdiv_ge_zero {p g : Int} (hg : 1 ≤ g) (h : 0 ≤ p) : 0 ≤ p.tdiv g := Int.tdiv_nonneg h (by omega)
theorem tdiv_gt_zero {p g : Int} (hg : 1 ≤ g) (hd : g ∣ p) (h : 0 < p) : 0 < p.tdiv g := by
  obtain ⟨x, rfl⟩ := hd
  rw [Int.mul_tdiv_cancel_left x (by omega)]
  exact Int.not_le.1 fun k => Int.not_le.2 h (Int.mul_nonpos_of_nonneg_of_nonpos (by omega) k)
theorem tdiv_mid {p : Int} (hp : Mid p) (g : Int) : Mid (p.tdiv g) := by
  have h : (p.tdiv g).natAbs ≤ p.natAbs := by rw [Int.natAbs_tdiv]; exact Nat.div_le_self _ _
  unfold Mid at *
  omega
end Go.Proofs.Ytlagljnhbhnelaa
