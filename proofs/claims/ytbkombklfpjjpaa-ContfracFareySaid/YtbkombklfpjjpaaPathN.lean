/- Plain mathematics of convergents: determinants. -/
import Derived.Test.YtbkombklfpjjpaaPathM
namespace Go.Proofs.Ytbkombklfpjjpaa

theorem cvg_first {n : Int} {l : List Int} {C : List (Int × Int)} (h : cvg 0 1 1 0 (n :: l) = some C) : ∃ D, C = (n, 1) :: D ∧ cvg 1 0 n 1 l = some D := by
  by_cases hc : inE (n * 1 + 0) = true ∧ inE (n * 0 + 1) = true
  · rw [cvg_next hc.1 hc.2] at h
    rw [show n * 1 + 0 = n by omega, show n * 0 + 1 = 1 by omega] at h
    cases hD : cvg 1 0 n 1 l with
    | none => rw [hD] at h; cases h
    | some D => rw [hD] at h; cases h; exact ⟨D, rfl, rfl⟩
  · rw [cvg_large hc] at h; cases h
theorem el_tail {n : Int} {l : List Int} (h : ElK (n :: l) (n :: l).length) : ∀ x ∈ l, 1 ≤ x := by
  intro x hx
  obtain ⟨i, hi, rfl⟩ := List.getElem_of_mem hx
  have := (h (i + 1) (by simpa using hi) (by simpa using hi)).2 (by omega)
  simpa using this
theorem cvg_dets0 {l : List Int} {C : List (Int × Int)} (hel : ElK l l.length) (h : cvg 0 1 1 0 l = some C) : Dets (-1) C := by
  cases l with
  | nil => cases h; trivial
  | cons n l =>
    obtain ⟨D, rfl, hD⟩ := cvg_first h
    exact cvg_dets l (-1) 1 0 n 1 D (el_tail hel) (by decide) (by decide) (by omega) hD
theorem dets_at : ∀ (C : List (Int × Int)) (s : Int) (_ : Dets s C) (i : Nat) (h : i + 1 < C.length),
    C[i].1 * C[i + 1].2 - C[i + 1].1 * C[i].2 = (if i % 2 = 0 then s else -s) ∧ (0 ≤ C[i].2 ∧ C[i].2 ≤ C[i + 1].2 ∨ C[i].2 = 0)
  | x :: y :: C, s, hd, 0, h => by
    obtain ⟨h1, h2, _⟩ := hd
    exact ⟨h1, h2⟩
  | x :: y :: C, s, hd, i + 1, h => by
    obtain ⟨_, _, h3⟩ := hd
    have := dets_at (y :: C) (-s) h3 i (by simpa using h)
    refine ⟨?_, this.2⟩
    have e := this.1
    simp only [List.getElem_cons_succ] at e ⊢
    rw [e]
    rcases Nat.mod_two_eq_zero_or_one i with k | k
    · rw [if_pos k, if_neg (by omega)]
    · rw [if_neg (by omega), if_pos (by omega)]; omega
theorem dets_pm {C : List (Int × Int)} {s : Int} (hd : Dets s C) (hs : s = 1 ∨ s = -1) (i : Nat) (h : i + 1 < C.length) :
    C[i].1 * C[i + 1].2 - C[i + 1].1 * C[i].2 = 1 ∨ C[i].1 * C[i + 1].2 - C[i + 1].1 * C[i].2 = -1 := by
  rw [(dets_at C s hd i h).1]
  split <;> omega
/-- The path of a cusp, from infinity, by Farey neighbours. -/
theorem dets_path {P Q : Int} (h : cuspI P Q = 0) (hq : 0 < Q) {C : List (Int × Int)} (hc : cvg 0 1 1 0 (cfe P Q) = some C) : Dets 1 ((1, 0) :: C) ∧ ∀ x ∈ (1, 0) :: C, inE x.1 = true ∧ inE x.2 = true := by
  have hel := cfe_el h hq
  have hd := cvg_dets0 hel hc
  have hin := cvg_in _ _ _ _ _ _ hc
  refine ⟨?_, ?_⟩
  · cases C with
    | nil => trivial
    | cons x C =>
      rw [cfe_next hq] at hc
      obtain ⟨D, e, _⟩ := cvg_first hc
      cases e
      exact ⟨by simp, .inr rfl, hd⟩
  · intro x hx
    rcases List.mem_cons.1 hx with e | hx
    · rw [e]; decide
    · exact hin x hx
end Go.Proofs.Ytbkombklfpjjpaa
