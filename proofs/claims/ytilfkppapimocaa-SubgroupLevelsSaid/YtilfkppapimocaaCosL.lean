/- The coset function of Gamma0(2), its search, and what the guard of the laws asks. -/
import Derived.Test.YtilfkppapimocaaSrL
import Derived.Test.YtilfkppapimocaaNorL
import Derived.Test.YtilfkppapimocaaPsL
import Derived.Test.YtilfkppapimocaaGrpL
namespace Go.Proofs.Ytilfkppapimocaa
open Go.RowKit
set_option linter.unusedVariables false
set_option linter.unusedSimpArgs false

set_option maxHeartbeats 1600000 in
set_option maxRecDepth 1000000 in
theorem point_at {n c d U V T : Int} (hn : ∀ W, Calls Try.prog 81 #[.int .i64 n, .int .i64 c, .int .i64 d] W fun e w' => e = .returned (.tuple #[.agg #[.int .i64 U, .int .i64 V, .int .i64 T], .int .i64 0]) ∧ Below W.heap.size W w') (w : World) :
    Calls Try.prog 77 #[.int .i64 n, .int .i64 c, .int .i64 d] w fun e w' => e = .returned (.agg #[.int .i64 U, .int .i64 V, .int .i64 0, .int .i64 0]) ∧ Below w.heap.size w w' := by
  have HN := Lib.hid (fun W => hn W)
  clear hn
  go_enter Try.func77, Try.ntmps77
  go_wp2_with (first
    | (go_at_call 81; ((with_reducible refine (HN.out _).mono ?_); rintro e w1 ⟨rfl, hb⟩; have HB1 : Hid (Below w.heap.size w w1) := bel1 (Below.refl _ _) hb; have F1 : Hid (w1.heap[w.heap.size]? = some (.cells #[.int .i64 0, .int .i64 0, .int .i64 0, .int .i64 0] 103 (0, 0))) := block_below (heap_alloc_new w _) hb; obtain ⟨⟨k1, k2, k3, k4⟩, fz⟩ := four_of_block F1.out; have f1 := fz 0; have f2 := fz 1; have f3 := fz 2; have f4 := fz 3; clear fz; have hz := lt_of_block F1.out; clear hb))
    | fail)
  have hS := four_set F1.out (.int .i64 U) (.int .i64 V) (.int .i64 0) (.int .i64 0)
  obtain ⟨⟨r1, r2, r3, r4⟩, _⟩ := four_of_block (block_alloc hS (.cells #[.int .i64 U, .int .i64 V, .int .i64 T] 121))
  refine bodyPost_ret (v := .agg #[.int .i64 U, .int .i64 V, .int .i64 0, .int .i64 0]) ?_ rfl ⟨rfl, (below_set4 HB1.out (Nat.le_refl _) _ _ _ _).trans ((below1 _ _).mono (by have := HB1.out.size; simpa using this))⟩
  simp [results, Try.results77, go_sem, r1, r2, r3, r4]
set_option maxHeartbeats 1600000 in
set_option maxRecDepth 1000000 in
theorem cos0_at {n a b c d U V T : Int} (hn : ∀ W, Calls Try.prog 81 #[.int .i64 n, .int .i64 c, .int .i64 d] W fun e w' => e = .returned (.tuple #[.agg #[.int .i64 U, .int .i64 V, .int .i64 T], .int .i64 0]) ∧ Below W.heap.size W w') : CosC 1 n a b c d U V 0 0 := by
  intro w
  have HN := Lib.hid (fun W => point_at hn W)
  clear hn
  go_enter Try.func66, Try.ntmps66
  go_wp2_with (first
    | (go_at_call 77; ((with_reducible refine (HN.out _).mono ?_); rintro e w1 ⟨rfl, hb⟩; have HB1 : Hid (Below w.heap.size w w1) := (below3 w _ _ _).trans (hb.mono (by simp; omega)); have F1 : Hid (w1.heap[w.heap.size + 1 + 1]? = some (.cells #[.int .i64 0, .int .i64 0, .int .i64 0, .int .i64 0] 103 (0, 0))) := block_below (by have := heap_alloc_new ((w.alloc (.cells #[.int .i64 1, .int .i64 n] 24)).alloc (.cells #[.int .i64 a, .int .i64 b, .int .i64 c, .int .i64 d] 26)) (.cells #[.int .i64 0, .int .i64 0, .int .i64 0, .int .i64 0] 103); simpa using this) hb; obtain ⟨⟨k1, k2, k3, k4⟩, fz⟩ := four_of_block F1.out; have f1 := fz 0; have f2 := fz 1; have f3 := fz 2; have f4 := fz 3; clear fz; have hz := lt_of_block F1.out; clear hb))
    | fail)
  obtain ⟨⟨r1, r2, r3, r4⟩, _⟩ := four_of_block (four_set F1.out (.int .i64 U) (.int .i64 V) (.int .i64 0) (.int .i64 0))
  refine bodyPost_ret (v := .agg #[.int .i64 U, .int .i64 V, .int .i64 0, .int .i64 0]) ?_ rfl ⟨rfl, below_set4 HB1.out (by omega) _ _ _ _⟩
  simp [results, Try.results66, go_sem, r1, r2, r3, r4]
/-- The coset function modulo 2. -/
def co2 (m : M4) : K4 := (m.2.2.1 % 2, m.2.2.2 % 2, 0, 0)
theorem nf2 (c d : Int) : NF 2 c d (c % 2) (d % 2) 1 := by
  refine ⟨by omega, by omega, by omega, by omega, by decide, by decide, by decide, ⟨-(c / 2), by omega⟩, ⟨-(d / 2), by omega⟩, fun s hs => ?_⟩
  have h := unit_mod hs
  have s0 : s % 2 = 0 ∨ s % 2 = 1 := by omega
  rcases s0 with s0 | s0
  · rw [s0] at h; exact absurd h (by decide)
  · have hc : (s * c) % 2 = c % 2 := by rw [Int.mul_emod, s0, Int.one_mul, Int.emod_emod_of_dvd _ (Int.dvd_refl 2)]
    have hd : (s * d) % 2 = d % 2 := by rw [Int.mul_emod, s0, Int.one_mul, Int.emod_emod_of_dvd _ (Int.dvd_refl 2)]
    rw [hc, hd]
    exact .inr ⟨rfl, Int.le_refl _⟩
theorem com2 (a b c d : Int) (h1 : inE c = true) (h2 : inE d = true) (hg : Int.gcd (Int.gcd c d) 2 = 1) : CoM 1 2 co2 (a, b, c, d) := by
  refine ⟨cos0_at (T := 1) fun W => (pnormal_any 2 c d W).mono ?_, ?_⟩
  · rintro e w' ⟨U, V, T, k, hE, rfl, hb⟩
    obtain ⟨rfl, rfl, rfl, rfl⟩ := hE.unique (NorE.yes _ _ 1 (by decide) (by decide) h1 h2 hg (nf2 c d))
    exact ⟨rfl, hb⟩
  · show wf4 (c % 2, d % 2, 0, 0)
    have hc : c % 2 = 0 ∨ c % 2 = 1 := by omega
    have hd : d % 2 = 0 ∨ d % 2 = 1 := by omega
    rcases hc with hc | hc <;> rcases hd with hd | hd <;> rw [hc, hd] <;> exact ⟨by decide, by decide, by decide, by decide⟩
theorem sr2 : (srun co2 3).S = [1, 0, 2] ∧ (srun co2 3).T = [0, 2, 1] ∧ (srun co2 3).L = [(1, 0, 0, 1), (0, -1, 1, 0), (0, -1, 1, 1)] := by decide +kernel
theorem search2 (w : World) : Calls Try.prog 43 #[.agg #[.int .i64 1, .int .i64 2]] w fun e w' => ∃ vS vT vl, e = .returned (.tuple #[.agg #[vS, vT], vl]) ∧
    w'.ownsRow w.heap.size 3 1 vS 3 (is [1, 0, 2]) ∧ w'.ownsRow w.heap.size 3 1 vT 3 (is [0, 2, 1]) ∧ w'.ownsRow w.heap.size 26 4 vl 3 (ms [(1, 0, 0, 1), (0, -1, 1, 0), (0, -1, 1, 1)]) ∧ Below w.heap.size w w' := by
  have h := search_any 1 2 co2 3 w (by decide +kernel) (fun i hi => by
    obtain rfl | rfl | rfl : i = 0 ∨ i = 1 ∨ i = 2 := by omega
    all_goals decide +kernel) (by decide) (fun i hi => by
    obtain rfl | rfl | rfl : i = 0 ∨ i = 1 ∨ i = 2 := by omega
    · exact ⟨by decide, by decide, by decide, by decide⟩
    · rw [show (srun co2 1).L.getD 1 (0, 0, 0, 0) = (0, -1, 1, 0) from by decide +kernel]; exact ⟨by decide, by decide, by decide, by decide⟩
    · rw [show (srun co2 2).L.getD 2 (0, 0, 0, 0) = (0, -1, 1, 1) from by decide +kernel]; exact ⟨by decide, by decide, by decide, by decide⟩) (fun i hi => by
    obtain rfl | rfl | rfl : i = 0 ∨ i = 1 ∨ i = 2 := by omega
    · exact ⟨com2 _ _ _ _ (by decide) (by decide) (by decide), com2 _ _ _ _ (by decide) (by decide) (by decide)⟩
    · rw [show (srun co2 1).L.getD 1 (0, 0, 0, 0) = (0, -1, 1, 0) from by decide +kernel]; exact ⟨com2 _ _ _ _ (by decide) (by decide) (by decide), com2 _ _ _ _ (by decide) (by decide) (by decide)⟩
    · rw [show (srun co2 2).L.getD 2 (0, 0, 0, 0) = (0, -1, 1, 1) from by decide +kernel]; exact ⟨com2 _ _ _ _ (by decide) (by decide) (by decide), com2 _ _ _ _ (by decide) (by decide) (by decide)⟩) (com2 _ _ _ _ (by decide) (by decide) (by decide))
  rw [sr2.1, sr2.2.1, sr2.2.2] at h
  exact h
end Go.Proofs.Ytilfkppapimocaa
