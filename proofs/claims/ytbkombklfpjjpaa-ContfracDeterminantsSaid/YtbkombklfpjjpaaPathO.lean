/- Plain mathematics of convergents: the last but one. -/
import Derived.Test.YtbkombklfpjjpaaPathN
namespace Go.Proofs.Ytbkombklfpjjpaa

theorem dens_pos {C : List (Int × Int)} {s : Int} (hd : Dets s C) (h0 : ∀ (h : 0 < C.length), 1 ≤ C[0].2) : ∀ (i : Nat) (h : i < C.length), 1 ≤ C[i].2
  | 0, h => h0 h
  | i + 1, h => by
    have ih := dens_pos hd h0 i (by omega)
    rcases (dets_at C s hd i h).2 with ⟨_, k⟩ | k <;> omega
theorem cvg_den {l : List Int} {C : List (Int × Int)} (hel : ElK l l.length) (hc : cvg 0 1 1 0 l = some C) (i : Nat) (h : i < C.length) : 1 ≤ C[i].2 := by
  refine dens_pos (cvg_dets0 hel hc) (fun h0 => ?_) i h
  cases l with
  | nil => cases hc; simp at h0
  | cons n l =>
    obtain ⟨D, rfl, _⟩ := cvg_first hc
    exact Int.le_refl 1
theorem cfe_one {p : Int} : cfe p 1 = [p] := by
  rw [cfe_next (by decide), Int.emod_one, cfe_zero, Int.ediv_one]
theorem gcd_emod {p q : Int} (hq : 2 ≤ q) (h : Int.gcd p q = 1) : ¬ p % q = 0 := by
  intro h0
  have e := @gcd_step p q
  rw [h0, Int.gcd_zero_right, h] at e
  omega
/-- The last two convergents of a cusp. -/
theorem par_conv {p q : Int} (h : cuspI p q = 0) (hq : 2 ≤ q) : ∃ (C : List (Int × Int)) (L : Nat) (a b : Int), cvg 0 1 1 0 (cfe p q) = some C ∧ C.length = L + 2 ∧ (cfe p q).length = L + 2 ∧ C[L]? = some (a, b) ∧
    (a * q - p * b = 1 ∨ a * q - p * b = -1) ∧ 0 < b ∧ b < q ∧ inE a = true ∧ inE b = true := by
  have hq0 : 0 < q := by omega
  obtain ⟨C, c1, c2, c3⟩ := cvg_cfe h hq0
  have hg := (cuspI_zero.1 h).2.2.cop
  have hr := gcd_emod hq hg
  have m1 := Int.emod_nonneg p (show q ≠ 0 by omega)
  have hl : 2 ≤ (cfe p q).length := by
    rw [cfe_next hq0, cfe_next (show 0 < p % q by omega)]; simp
  obtain ⟨L, hL⟩ : ∃ L, (cfe p q).length = L + 2 := ⟨(cfe p q).length - 2, by omega⟩
  have hC : C.length = L + 2 := by omega
  have hlast : C[L + 1] = (p, q) := by
    rw [List.getLast?_eq_getElem?, hC] at c3
    have := (List.getElem?_eq_some_iff.1 c3).2
    exact this
  have hd := dets_at C (-1) (cvg_dets0 (cfe_el h hq0) c1) L (by omega)
  have hb := cvg_den (cfe_el h hq0) c1 L (by omega)
  have hi := cvg_in _ _ _ _ _ _ c1 C[L] (List.getElem_mem _)
  rw [hlast] at hd
  obtain ⟨hd1, hd2⟩ := hd
  have hpm : C[L].1 * q - p * C[L].2 = 1 ∨ C[L].1 * q - p * C[L].2 = -1 := by
    rw [hd1]; split <;> omega
  have hle : C[L].2 ≤ q := by
    rcases hd2 with ⟨_, k⟩ | k
    · exact k
    · omega
  have hne : C[L].2 ≠ q := by
    intro e
    rw [e, ← Int.sub_mul] at hpm
    have hz : (C[L].1 - p) * q = 1 ∨ (C[L].1 - p) * q = -1 := hpm
    generalize C[L].1 - p = t at hz
    rcases Int.lt_or_le 0 t with k | k
    · have := Int.mul_le_mul_of_nonneg_right (show 1 ≤ t by omega) (show 0 ≤ q by omega); omega
    · rcases Int.lt_or_le t 0 with k2 | k2
      · have := Int.mul_le_mul_of_nonneg_right (show t ≤ -1 by omega) (show 0 ≤ q by omega); omega
      · have : t = 0 := by omega
        rw [this, Int.zero_mul] at hz; omega
  exact ⟨C, L, C[L].1, C[L].2, c1, hC, hL, by rw [List.getElem?_eq_getElem (by omega)], hpm, by omega, by omega, hi.1, hi.2⟩
end Go.Proofs.Ytbkombklfpjjpaa
