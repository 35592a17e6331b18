/- The contracts of signature's withGenus, Formula0 and Formula1. -/
import Derived.Test.YtlagljnhbhnelaaCt0L
import Derived.Test.YtlagljnhbhnelaaLawK
import Derived.Deep.DeepCutAuto
import Derived.Deep.CutBlock
import Derived.Deep.RegionHeld3
import Derived.IntWalk
namespace Go.Proofs.Ytlagljnhbhnelaa
open Go.RowKit
set_option linter.unusedVariables false
set_option linter.unusedSimpArgs false

theorem seven_of_block {w : World} {b : Nat} {x0 x1 x2 x3 x4 x5 x6 : Value} {t : TypeId} (h : w.heap[b]? = some (.cells #[x0, x1, x2, x3, x4, x5, x6] t (0, 0))) :
    (w.cell? ⟨b, 0, none⟩ = some x0 ∧ w.cell? ⟨b, 1, none⟩ = some x1 ∧ w.cell? ⟨b, 2, none⟩ = some x2 ∧ w.cell? ⟨b, 3, none⟩ = some x3 ∧ w.cell? ⟨b, 4, none⟩ = some x4 ∧ w.cell? ⟨b, 5, none⟩ = some x5 ∧ w.cell? ⟨b, 6, none⟩ = some x6) ∧ (∀ k, w.frozen? ⟨b, k, none⟩ = false) :=
  ⟨⟨by rw [cell_of_row w b 0 _ t _ h]; rfl, by rw [cell_of_row w b 1 _ t _ h]; rfl, by rw [cell_of_row w b 2 _ t _ h]; rfl, by rw [cell_of_row w b 3 _ t _ h]; rfl, by rw [cell_of_row w b 4 _ t _ h]; rfl, by rw [cell_of_row w b 5 _ t _ h]; rfl, by rw [cell_of_row w b 6 _ t _ h]; rfl⟩, fun j => frozen_of_row w b j _ t h⟩
theorem seven_set {w : World} {g : Nat} {x0 x1 x2 x3 x4 x5 x6 : Value} {t : TypeId} (h : w.heap[g]? = some (.cells #[x0, x1, x2, x3, x4, x5, x6] t (0, 0))) (y0 y1 y2 y3 y4 y5 y6 : Value) :
    (((((((w.setCell ⟨g, 0, none⟩ y0).setCell ⟨g, 1, none⟩ y1).setCell ⟨g, 2, none⟩ y2).setCell ⟨g, 3, none⟩ y3).setCell ⟨g, 4, none⟩ y4).setCell ⟨g, 5, none⟩ y5).setCell ⟨g, 6, none⟩ y6).heap[g]? = some (.cells #[y0, y1, y2, y3, y4, y5, y6] t (0, 0)) :=
  heap_setCell_same _ g 6 #[y0, y1, y2, y3, y4, y5, x6] t y6 (heap_setCell_same _ g 5 #[y0, y1, y2, y3, y4, x5, x6] t y5 (heap_setCell_same _ g 4 #[y0, y1, y2, y3, x4, x5, x6] t y4 (heap_setCell_same _ g 3 #[y0, y1, y2, x3, x4, x5, x6] t y3 (heap_setCell_same _ g 2 #[y0, y1, x2, x3, x4, x5, x6] t y2 (heap_setCell_same _ g 1 #[y0, x1, x2, x3, x4, x5, x6] t y1 (heap_setCell_same _ g 0 #[x0, x1, x2, x3, x4, x5, x6] t y0 h))))))
theorem seven_bel {w0 w : World} {g : Nat} (h : Below g w0 w) (y0 y1 y2 y3 y4 y5 y6 : Value) : Below g w0 (((((((w.setCell ⟨g, 0, none⟩ y0).setCell ⟨g, 1, none⟩ y1).setCell ⟨g, 2, none⟩ y2).setCell ⟨g, 3, none⟩ y3).setCell ⟨g, 4, none⟩ y4).setCell ⟨g, 5, none⟩ y5).setCell ⟨g, 6, none⟩ y6) :=
  ((((((h.setCell (Nat.le_refl _) _).setCell (Nat.le_refl _) _).setCell (Nat.le_refl _) _).setCell (Nat.le_refl _) _).setCell (Nat.le_refl _) _).setCell (Nat.le_refl _) _).setCell (Nat.le_refl _) _
/-- The signature of Gamma0(n) and of Gamma1(n) by the formulas. -/
def g0V (n : Nat) : Int := (12 + (psV n : Int) - 3 * rtV 4 4 n - 4 * rtV 3 9 n - 6 * (cuV n : Int)).tdiv 12
theorem rtV_bd {A sq n : Nat} (hA : A = 3 ∨ A = 4) (n1 : 1 ≤ n) (n2 : n ≤ 120) : 0 ≤ rtV A sq n ∧ rtV A sq n ≤ 1000 := by
  have HC := art_of n1 n2
  unfold rtV
  split
  · omega
  · rcases hA with rfl | rfl
    · have := HC.b3 _ (Nat.le_refl _); rwa [List.take_length] at this
    · have := HC.b4 _ (Nat.le_refl _); rwa [List.take_length] at this
theorem psV_le {n : Nat} (n1 : 1 ≤ n) (n2 : n ≤ 120) : psV n ≤ 1000 := by
  have := (art_of n1 n2).bd _ (Nat.le_refl _)
  rwa [List.take_length] at this
theorem cuF_le (n : Nat) (n1 : 1 ≤ n) (n2 : n ≤ 120) : ∀ D x, (∀ d ∈ D, 1 ≤ d ∧ d ∣ n ∧ d ≤ 120) → cuF n D x ≤ x + 120 * D.length
  | [], x, _ => Nat.le_refl _
  | d :: D, x, h => by
    have h1 := cuF_le n n1 n2 D (x + phV (Nat.gcd d (n / d))) fun y hy => h y (by simp [hy])
    have h2 := phV_le (Nat.gcd d (n / d))
    obtain ⟨h3, _, h4⟩ := h d (by simp)
    have h5 : Nat.gcd d (n / d) ≤ d := Nat.gcd_le_left _ h3
    rw [cuF, List.length_cons]
    omega
theorem cuV_le {n : Nat} (n1 : 1 ≤ n) (n2 : n ≤ 120) : cuV n ≤ 20000 := by
  obtain ⟨h1, h2⟩ := dvN_bd n1 n2
  have := cuF_le n n1 n2 (dvN n) 0 h2
  unfold cuV
  omega
end Go.Proofs.Ytlagljnhbhnelaa
