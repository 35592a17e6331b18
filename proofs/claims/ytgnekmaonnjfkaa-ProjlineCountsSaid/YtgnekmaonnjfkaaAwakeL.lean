/- The guard of every law of projline: awake() is true. -/
import Derived.Test.YtgnekmaonnjfkaaPubL
namespace Go.Proofs.Ytgnekmaonnjfkaa
open Go.RowKit
set_option linter.unusedVariables false

theorem lv4 : lvB 4 = true := by decide
theorem pt4 : ptI 4 = [(0, 1), (1, 0), (1, 1), (1, 2), (1, 3), (2, 1)] := by decide +kernel
theorem nf432 : NF 4 3 2 1 2 3 := by
  refine ⟨by decide, by decide, by decide, by decide, by decide, by decide, by decide, ⟨0, rfl⟩, ⟨1, rfl⟩, fun s hs => ?_⟩
  have h := unit_mod hs
  rw [← emod_mul' s 3, ← emod_mul' s 2]
  have s0 := Int.emod_nonneg s (show (4 : Int) ≠ 0 by decide)
  have s1 := Int.emod_lt_of_pos s (show (0 : Int) < 4 by decide)
  generalize s % 4 = r at *
  obtain rfl | rfl | rfl | rfl : r = 0 ∨ r = 1 ∨ r = 2 ∨ r = 3 := by omega
  · exact absurd h (by decide)
  · decide
  · exact absurd h (by decide)
  · decide
theorem norm432 (w : World) : Calls Try.prog 13 #[.int .i64 4, .int .i64 3, .int .i64 2] w fun e w' => e = .returned (.tuple #[.agg #[.int .i64 1, .int .i64 2, .int .i64 3], .int .i64 0]) ∧ Below w.heap.size w w' := by
  refine (pnormal_any 4 3 2 w).mono ?_
  rintro e w' ⟨U, V, T, k, hE, rfl, hb⟩
  obtain ⟨rfl, rfl, rfl, rfl⟩ := hE.unique (NorE.yes 1 2 3 (by decide) (by decide) (by decide +kernel) (by decide +kernel) (by decide) nf432)
  exact ⟨rfl, hb⟩
theorem LftE.unique {n i a b c d k a' b' c' d' k' : Int} (h : LftE n i a b c d k) (h' : LftE n i a' b' c' d' k') : a = a' ∧ b = b' ∧ c = c' ∧ d = d' ∧ k = k' := by
  have get : ∀ {x}, 0 ≤ i → (ptI n)[i.toNat]? = some x → ¬ ((ptI n).length : Int) ≤ i := fun h0 h h1 => by
    have := (List.getElem?_eq_some_iff.1 h).1; omega
  cases h with
  | out h =>
    cases h' with
    | out _ => exact ⟨rfl, rfl, rfl, rfl, rfl⟩
    | zero v h1 h2 h3 =>
      rcases h with h | h | h
      · rw [h] at h1; cases h1
      · omega
      · exact absurd h (get h2 h3)
    | yes u v a h1 h2 h3 _ _ =>
      rcases h with h | h | h
      · rw [h] at h1; cases h1
      · omega
      · exact absurd h (get h2 h3)
  | zero v h1 h2 h3 =>
    cases h' with
    | out h =>
      rcases h with h | h | h
      · rw [h] at h1; cases h1
      · omega
      · exact absurd h (get h2 h3)
    | zero _ _ _ _ => exact ⟨rfl, rfl, rfl, rfl, rfl⟩
    | yes u v' a _ _ h4 h5 _ => rw [h3] at h4; cases h4; omega
  | yes u v a h1 h2 h3 h4 h5 =>
    cases h' with
    | out h =>
      rcases h with h | h | h
      · rw [h] at h1; cases h1
      · omega
      · exact absurd h (get h2 h3)
    | zero _ _ _ h6 => rw [h3] at h6; cases h6; omega
    | yes u' v' a' _ _ h6 _ h7 =>
      rw [h3] at h6; cases h6
      rw [h5.unique h7 (unit_of h5.dvd)]
      exact ⟨rfl, rfl, rfl, rfl, rfl⟩
theorem lift45 (w : World) : Calls Try.prog 28 #[.int .i64 4, .int .i64 5] w fun e w' => e = .returned (.tuple #[.agg #[.int .i64 1, .int .i64 0, .int .i64 2, .int .i64 1], .int .i64 0]) ∧ Below w.heap.size w w' := by
  refine (plift_any 4 5 w).mono ?_
  rintro e w' ⟨a, b, c, d, k, hE, rfl, hb⟩
  obtain ⟨rfl, rfl, rfl, rfl, rfl⟩ := hE.unique (LftE.yes 2 1 1 lv4 (by decide) (by rw [pt4]; rfl) (by decide) ⟨by decide, by decide, by decide⟩)
  exact ⟨rfl, hb⟩
theorem list4 (w : World) : Calls Try.prog 16 #[.int .i64 4] w fun e w' => ∃ A c, e = .returned (.tuple #[.slice A 6 c, .int .i64 0]) ∧ RdP w' w'.heap.size A c [(0, 1), (1, 0), (1, 1), (1, 2), (1, 3), (2, 1)] ∧ Below w.heap.size w w' := by
  have h := plist_any 4 w
  rw [pt4, lvE_yes lv4] at h
  exact h
set_option maxHeartbeats 1600000 in
set_option maxRecDepth 1000000 in
theorem awake_any (w : World) : Calls Try.prog 12 #[] w fun e w' => e = .returned (.bool true) ∧ Below w.heap.size w w' := by
  go_enter Try.func12, Try.ntmps12
  go_upto_region 4 with (first
    | (go_at_call 16; ((with_reducible refine (list4 _).mono ?_); rintro e w1 ⟨A, c, rfl, hr, hb⟩; have HR1 := Lib.hid hr; have HB1 := Lib.hid hb; clear hr hb))
    | (go_at_call 13; ((with_reducible refine (norm432 _).mono ?_); rintro e w2 ⟨rfl, hb⟩; have HR2 := Lib.hid (HR1.out.below hb); have HB2 := Lib.hid (bel0 HB1.out hb); have hz2 : w1.heap.size ≤ w2.heap.size := hb.size; clear hb))
    | (go_at_call 28; ((with_reducible refine (lift45 _).mono ?_); rintro e w3 ⟨rfl, hb⟩; have HB3 := Lib.hid (bel1 HB2.out hb); have HF3 : Hid (Tri w3 w2.heap.size 1 2 3) := (Tri.at w2 rfl 1 2 3).below hb; have HR3 := Lib.hid ((HR2.out.below ((below1 w2 _).mono hz2)).below (hb.mono (by simp; omega))); have hz3 : w2.heap.size < w3.heap.size := HF3.out.lt; clear hb))
    | fail)
  obtain ⟨k1, k2, k3⟩ := HF3.out.cells
  obtain ⟨b, o, rfl, hbw, x1, x2, x3⟩ := HR3.out.at_ (k := 5) (by decide)
  simp at x1 x2 x3
  have hb3 : b < w3.heap.size := by omega
  go_wp2
  go_ret
  exact ⟨rfl, HB3.out.trans ((below1 w3 _).mono HB3.out.size)⟩
end Go.Proofs.Ytgnekmaonnjfkaa
