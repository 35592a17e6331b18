/- Contracts of CheckCusp, reduced, Reduce, Apply and of the reference's CheckCusp, Lowest, Reduce, Image, Apply. -/
import Derived.Test.YtoledgfclmddmaaGcdL
import Derived.Test.YtoledgfclmddmaaCuspM
import Derived.Test.YtoledgfclmddmaaDetL
import Derived.Deep.RegionHeld3
import Derived.RegionTactic
namespace Go.Proofs.Ytoledgfclmddmaa
open Go.RowKit

theorem mid_entry {n : Int} (h : inE n = true) : Mid n := by have := inE_iff.1 h; unfold Mid; omega
theorem gcd_ne {p q : Int} {g : Nat} (hg : g = Int.gcd p q) (h : ¬ Int.gcd p q = 1) : ((g : Int) != 1) = true := by rw [bne_iff_ne]; omega
set_option maxHeartbeats 800000 in
theorem checkCusp_any (p q : Int) (w : World) : Calls Try.prog 52 #[.agg #[.int .i64 p, .int .i64 q]] w fun e w' => e = .returned (.int .i64 (cuspI p q)) ∧ Below w.heap.size w w' := by
  have HP := Lib.hid (fun W => isEntry_any p W)
  have HQ := Lib.hid (fun W => isEntry_any q W)
  rcases cusp_cases p q with ⟨hp, k⟩ | ⟨hp, hq, h1, k⟩ | ⟨hp, hq, h1, k⟩ | ⟨hp, hq, h1, h2, k⟩ | ⟨hp, hq, h1, h2, h3, k⟩ | ⟨hp, hq, h1, h2, h3, h4, h5, k⟩ | ⟨hp, hq, h1, h2, h3, h4, h5, k⟩ | ⟨hp, hq, h1, h2, h3, h4, k⟩
  · rw [k]
    rw [hp] at HP
    clear hp k
    go_enter Try.func52, Try.ntmps52
    go_wp2_with (first
      | (go_at_call 67; ((with_reducible refine (HP.out _).mono ?_); rintro e w' ⟨rfl, rfl⟩))
      | fail)
    go_ret
    exact ⟨rfl, below1 _ _⟩
  · rw [k]
    rw [hp] at HP
    rw [hq] at HQ
    clear hp hq k
    go_enter Try.func52, Try.ntmps52
    go_wp2_with (first
      | (go_at_call 67; ((with_reducible refine (HP.out _).mono ?_); rintro e w' ⟨rfl, rfl⟩))
      | fail)
    go_ret
    exact ⟨rfl, below1 _ _⟩
  · rw [k]
    rw [hp] at HP
    rw [hq] at HQ
    clear hp hq k
    go_enter Try.func52, Try.ntmps52
    go_wp2_with (first
      | (go_at_call 67; ((with_reducible refine (HP.out _).mono ?_); rintro e w' ⟨rfl, rfl⟩))
      | fail)
    go_ret
    exact ⟨rfl, below1 _ _⟩
  · rw [k]
    rw [hp] at HP
    rw [hq] at HQ
    clear hp hq k
    go_enter Try.func52, Try.ntmps52
    go_wp2_with (first
      | (go_at_call 67; ((with_reducible refine (HP.out _).mono ?_); rintro e w' ⟨rfl, rfl⟩))
      | fail)
    go_ret
    exact ⟨rfl, below1 _ _⟩
  · rw [k]
    rw [hp] at HP
    rw [hq] at HQ
    have HG := Lib.hid (fun W => gcd_any p q W (mid_entry hp) (mid_entry hq))
    obtain ⟨g, hg⟩ : ∃ g, g = Int.gcd p q := ⟨_, rfl⟩
    have hg1 := gcd_ne hg h3
    rw [← hg] at HG
    clear hg h3
    clear hp hq k
    go_enter Try.func52, Try.ntmps52
    go_wp2_with (first
      | (go_at_call 67; ((with_reducible refine (HP.out _).mono ?_); rintro e w' ⟨rfl, rfl⟩))
      | (go_at_call 33; ((with_reducible refine (HG.out _).mono ?_); rintro e w' ⟨rfl, n, rfl⟩))
      | fail)
    go_ret
    exact ⟨rfl, below_drewN (below1 _ _) _⟩
  · rw [k]
    rw [hp] at HP
    rw [hq] at HQ
    have HG := Lib.hid (fun W => gcd_any p q W (mid_entry hp) (mid_entry hq))
    rw [h3] at HG
    clear h3
    subst h4
    have hp1 : (p != 1) = true := by simpa using h5
    clear h5
    clear hp hq k
    go_enter Try.func52, Try.ntmps52
    go_wp2_with (first
      | (go_at_call 67; ((with_reducible refine (HP.out _).mono ?_); rintro e w' ⟨rfl, rfl⟩))
      | (go_at_call 33; ((with_reducible refine (HG.out _).mono ?_); rintro e w' ⟨rfl, n, rfl⟩))
      | fail)
    go_ret
    exact ⟨rfl, below_drewN (below1 _ _) _⟩
  · rw [k]
    rw [hp] at HP
    rw [hq] at HQ
    have HG := Lib.hid (fun W => gcd_any p q W (mid_entry hp) (mid_entry hq))
    rw [h3] at HG
    clear h3
    subst h4
    subst h5
    clear hp hq k
    go_enter Try.func52, Try.ntmps52
    go_wp2_with (first
      | (go_at_call 67; ((with_reducible refine (HP.out _).mono ?_); rintro e w' ⟨rfl, rfl⟩))
      | (go_at_call 33; ((with_reducible refine (HG.out _).mono ?_); rintro e w' ⟨rfl, n, rfl⟩))
      | fail)
    go_ret
    exact ⟨rfl, below_drewN (below1 _ _) _⟩
  · rw [k]
    rw [hp] at HP
    rw [hq] at HQ
    have HG := Lib.hid (fun W => gcd_any p q W (mid_entry hp) (mid_entry hq))
    rw [h3] at HG
    clear h3
    have hq0 : (q == 0) = false := by simpa using h4
    clear h4
    clear hp hq k
    go_enter Try.func52, Try.ntmps52
    go_wp2_with (first
      | (go_at_call 67; ((with_reducible refine (HP.out _).mono ?_); rintro e w' ⟨rfl, rfl⟩))
      | (go_at_call 33; ((with_reducible refine (HG.out _).mono ?_); rintro e w' ⟨rfl, n, rfl⟩))
      | fail)
    go_ret
    exact ⟨rfl, below_drewN (below1 _ _) _⟩
theorem gcd_pos_int {p q : Int} (h : ¬ (p = 0 ∧ q = 0)) : 1 ≤ (Int.gcd p q : Int) := by have := gcd_pos_of h; omega
theorem wrap_neg_tdiv {p : Int} (hp : Mid p) (g : Int) : wrap64 (-p.tdiv g) = -p.tdiv g := by
  have h : (p.tdiv g).natAbs ≤ p.natAbs := by rw [Int.natAbs_tdiv]; exact Nat.div_le_self _ _
  unfold Mid at hp
  exact IntWalk.wrap64_in _ (by omega)
theorem tdiv_lt_zero {p g : Int} (hg : 1 ≤ g) (hd : g ∣ p) (h : p < 0) : p.tdiv g < 0 := by
  obtain ⟨x, rfl⟩ := hd
  rw [Int.mul_tdiv_cancel_left x (by omega)]
  exact Int.not_le.1 fun k => Int.not_le.2 h (Int.mul_nonneg (by omega) k)
theorem tdiv_ge_zero {p g : Int} (hg : 1 ≤ g) (h : 0 ≤ p) : 0 ≤ p.tdiv g := Int.tdiv_nonneg h (by omega)
theorem tdiv_gt_zero {p g : Int} (hg : 1 ≤ g) (hd : g ∣ p) (h : 0 < p) : 0 < p.tdiv g := by
  obtain ⟨x, rfl⟩ := hd
  rw [Int.mul_tdiv_cancel_left x (by omega)]
  exact Int.not_le.1 fun k => Int.not_le.2 h (Int.mul_nonpos_of_nonneg_of_nonpos (by omega) k)
theorem tdiv_mid {p : Int} (hp : Mid p) (g : Int) : Mid (p.tdiv g) := by
  have h : (p.tdiv g).natAbs ≤ p.natAbs := by rw [Int.natAbs_tdiv]; exact Nat.div_le_self _ _
  unfold Mid at *
  omega
end Go.Proofs.Ytoledgfclmddmaa
