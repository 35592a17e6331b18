/- Which spaces there are: isFundamental, both Checks, Sturm. -/
import Derived.Test.YtlagljnhbhnelaaDnA
import Derived.Test.YtlagljnhbhnelaaLawK
import Derived.Test.YtlagljnhbhnelaaRfP
import Derived.Deep.DeepCutAuto
import Derived.Deep.CutBlock
import Derived.Deep.RegionHeld3
import Derived.IntWalk
namespace Go.Proofs.Ytlagljnhbhnelaa
open Go.RowKit
set_option linter.unusedVariables false
set_option linter.unusedSimpArgs false

theorem three_of_blockD {w : World} {b : Nat} {x0 x1 x2 : Value} {t : TypeId} (h : w.heap[b]? = some (.cells #[x0, x1, x2] t (0, 0))) :
    (w.cell? ⟨b, 0, none⟩ = some x0 ∧ w.cell? ⟨b, 1, none⟩ = some x1 ∧ w.cell? ⟨b, 2, none⟩ = some x2) ∧ (∀ k, w.frozen? ⟨b, k, none⟩ = false) :=
  ⟨⟨by rw [cell_of_row w b 0 _ t _ h]; rfl, by rw [cell_of_row w b 1 _ t _ h]; rfl, by rw [cell_of_row w b 2 _ t _ h]; rfl⟩, fun j => frozen_of_row w b j _ t h⟩
theorem funV_of {d disc : Int} {n : Nat} (hd : d.natAbs = n) {f : Int} (h : (sgn d * (freeOf (facs 2 n) : Int) % 4 = 1 ∧ disc = sgn d * (freeOf (facs 2 n) : Int) ∧ f = (rootOf (facs 2 n) : Int)) ∨ (sgn d * (freeOf (facs 2 n) : Int) % 4 ≠ 1 ∧ disc = sgn d * (freeOf (facs 2 n) : Int) * 4 ∧ f = (rootOf (facs 2 n) : Int) / 2)) : disc = funV d := by
  subst hd
  unfold funV
  rcases h with ⟨h1, h2, _⟩ | ⟨h1, h2, _⟩
  · have : sgnD d * (freeOf (facs 2 d.natAbs) : Int) % 4 = 1 := h1
    rw [if_pos this]; exact h2
  · have : ¬ sgnD d * (freeOf (facs 2 d.natAbs) : Int) % 4 = 1 := h1
    rw [if_neg this]; exact h2
set_option maxHeartbeats 1600000 in
theorem fund_zero (w : World) : Calls Try.prog 62 #[.int .i64 0] w fun e w' => e = .returned (.tuple #[.int .i64 0, .int .i64 0, .int .i64 2]) ∧ Below w.heap.size w w' := by
  go_enter Try.func62, Try.ntmps62
  go_wp2
  exact bodyPost_ret (results_tmp3 rfl _ _ _) rfl ⟨rfl, Below.refl _ _⟩
set_option maxHeartbeats 1600000 in
theorem fund_disc (d : Int) (w : World) (d1 : -120 ≤ d) (d2 : d ≤ 120) (h : ¬ d % 4 < 2) : Calls Try.prog 62 #[.int .i64 d] w fun e w' => e = .returned (.tuple #[.int .i64 0, .int .i64 0, .int .i64 15]) ∧ Below w.heap.size w w' := by
  have HAB := Lib.hid (fun W => absolute_any d W (by unfold Mid; omega))
  have hd0 : (d == 0) = false := by rw [beq_eq_false_iff_ne]; rintro rfl; exact h (by decide)
  have hn : (d.natAbs : Int) ≤ 120 := by omega
  have h4 : 2 ≤ d % 4 := by omega
  have h5 : d % 4 ≤ 3 := by omega
  clear h
  go_enter Try.func62, Try.ntmps62
  go_wp2_with (first
    | (go_at_call 71; ((with_reducible refine (HAB.out _).mono ?_); rintro e w' ⟨rfl, rfl⟩))
    | (go_at_call 73; ((with_reducible refine (residue_any _ _ _ (by omega) (by omega)).mono ?_); rintro e w' ⟨rfl, rfl⟩))
    | fail)
  exact bodyPost_ret (results_tmp3 rfl _ _ _) rfl ⟨rfl, Below.refl _ _⟩
/-- The error of a space. -/
def ckV (N W D : Int) : Int :=
  if N < 1 ∨ 120 < N ∨ W < 2 ∨ 24 < W ∨ D < -120 ∨ 120 < D then 2 else if fdB D = false then 15 else if N % D ≠ 0 then 14 else if ¬ (0 < D ↔ W % 2 = 0) then 16 else if 512 < (psV N.toNat : Int) * (W - 1) then 7 else 0
theorem ckV_ok {N W D : Int} (h : ckV N W D = 0) : (1 ≤ N ∧ N ≤ 120) ∧ (2 ≤ W ∧ W ≤ 24) ∧ (-120 ≤ D ∧ D ≤ 120) ∧ fdB D = true ∧ N % D = 0 ∧ (0 < D ↔ W % 2 = 0) ∧ (psV N.toNat : Int) * (W - 1) ≤ 512 := by
  unfold ckV at h
  split at h
  · cases h
  split at h
  · cases h
  split at h
  · cases h
  split at h
  · cases h
  split at h
  · cases h
  refine ⟨by omega, by omega, by omega, by simpa using ‹¬ fdB D = false›, by omega, by simpa using ‹¬ ¬ _›, by omega⟩
end Go.Proofs.Ytlagljnhbhnelaa
