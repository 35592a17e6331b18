/- SubgroupCloses answers true for all arguments. -/
import Derived.Test.YtfiooghodjiknaaLawG
namespace Go.Proofs.Ytfiooghodjiknaa
open Go.RowKit
set_option linter.unusedVariables false
set_option linter.unusedSimpArgs false

/-- The boxes of a group and of a pair of matrices. -/
structure GQ (W : World) (g : Nat) (k n a b c d a' b' c' d' : Int) : Prop where
  t : W.heap[g]? = some (.cells #[.int .i64 k, .int .i64 n] 24 (0, 0))
  v : W.heap[g + 1]? = some (.cells #[.int .i64 a, .int .i64 b, .int .i64 c, .int .i64 d, .int .i64 a', .int .i64 b', .int .i64 c', .int .i64 d'] 36 (0, 0))
section
variable {W W' : World} {g : Nat} {k n a b c d a' b' c' d' : Int}
theorem GQ.below (h : GQ W g k n a b c d a' b' c' d') (hb : Below W.heap.size W W') : GQ W' g k n a b c d a' b' c' d' := ⟨block_below h.t hb, block_below h.v hb⟩
theorem GQ.cells (h : GQ W g k n a b c d a' b' c' d') : (W.cell? ⟨g, 0, none⟩ = some (.int .i64 k) ∧ W.cell? ⟨g, 1, none⟩ = some (.int .i64 n)) ∧
    (W.cell? ⟨g + 1, 0, none⟩ = some (.int .i64 a) ∧ W.cell? ⟨g + 1, 1, none⟩ = some (.int .i64 b) ∧ W.cell? ⟨g + 1, 2, none⟩ = some (.int .i64 c) ∧ W.cell? ⟨g + 1, 3, none⟩ = some (.int .i64 d)) ∧
    (W.cell? ⟨g + 1, 4, none⟩ = some (.int .i64 a') ∧ W.cell? ⟨g + 1, 5, none⟩ = some (.int .i64 b') ∧ W.cell? ⟨g + 1, 6, none⟩ = some (.int .i64 c') ∧ W.cell? ⟨g + 1, 7, none⟩ = some (.int .i64 d')) ∧ (g + 1 < W.heap.size ∧ g < W.heap.size) :=
  ⟨(two_of_block h.t).1, ⟨by rw [cell_of_row W (g + 1) 0 _ _ _ h.v]; rfl, by rw [cell_of_row W (g + 1) 1 _ _ _ h.v]; rfl, by rw [cell_of_row W (g + 1) 2 _ _ _ h.v]; rfl, by rw [cell_of_row W (g + 1) 3 _ _ _ h.v]; rfl⟩,
    ⟨by rw [cell_of_row W (g + 1) 4 _ _ _ h.v]; rfl, by rw [cell_of_row W (g + 1) 5 _ _ _ h.v]; rfl, by rw [cell_of_row W (g + 1) 6 _ _ _ h.v]; rfl, by rw [cell_of_row W (g + 1) 7 _ _ _ h.v]; rfl⟩, ⟨lt_of_block h.v, lt_of_block h.t⟩⟩
end
set_option maxHeartbeats 6400000 in
set_option maxRecDepth 1000000 in
theorem lclo_walk (k n a b c d a' b' c' d' : Int) (w : World) :
    Calls Try.prog 4 #[.agg #[.int .i64 k, .int .i64 n], .agg #[.int .i64 a, .int .i64 b, .int .i64 c, .int .i64 d, .int .i64 a', .int .i64 b', .int .i64 c', .int .i64 d']] w fun e w' => e = .returned (.bool true) ∧ Below w.heap.size w w' := by
  have H1 := Lib.hid (fun W => has_any k n a b c d W)
  have H2 := Lib.hid (fun W => has_any k n a' b' c' d' W)
  obtain ⟨⟨p, q, r, s⟩, km, hm⟩ : ∃ m km, mulE ⟨a, b, c, d⟩ ⟨a', b', c', d'⟩ = (m, km) := ⟨_, _, rfl⟩
  have HM := Lib.hid (fun W => mul_any a b c d a' b' c' d' p q r s km W hm)
  by_cases hbad : hasE k n a b c d ≠ 0 ∨ hasE k n a' b' c' d' ≠ 0 ∨ km ≠ 0
  case pos =>
    clear hm
    generalize hasR k n a b c d = v at *
    generalize hasR k n a' b' c' d' = v' at *
    generalize hasE k n a b c d = z at *
    generalize hasE k n a' b' c' d' = z' at *
    rcases hbad with h | h | h
    · have hz1 : (z != 0) = true := by simpa using h
      clear h
      go_enter Try.func4, Try.ntmps4
      go_wp2_with (first
        | (go_at_call 10; ((with_reducible refine (awake_any _).mono ?_); rintro e w1 ⟨rfl, hb⟩; have F1 : Hid (GQ w1 w.heap.size k n a b c d a' b' c' d') := ⟨block_below (block_alloc (heap_alloc_new w _) _) hb, block_below (by have := heap_alloc_new (w.alloc (.cells #[.int .i64 k, .int .i64 n] 24)) (.cells #[.int .i64 a, .int .i64 b, .int .i64 c, .int .i64 d, .int .i64 a', .int .i64 b', .int .i64 c', .int .i64 d'] 36); simpa using this) hb⟩; have HB1 : Hid (Below w.heap.size w w1) := bel2 (Below.refl _ _) hb; obtain ⟨⟨t1, t2⟩, ⟨u1, u2, u3, u4⟩, ⟨v1, v2, v3, v4⟩, hz, hy⟩ := F1.out.cells; clear hb))
        | (go_at_call 11; ((with_reducible refine (H1.out _).mono ?_); rintro e w2 ⟨rfl, hb⟩; have F2 := Lib.hid (F1.out.below hb); have HB2 := Lib.hid (bel0 HB1.out hb); clear t1 t2 u1 u2 u3 u4 v1 v2 v3 v4 hz hy; obtain ⟨⟨t1, t2⟩, ⟨u1, u2, u3, u4⟩, ⟨v1, v2, v3, v4⟩, hz, hy⟩ := F2.out.cells; clear hb))
        | (go_at_call 11; ((with_reducible refine (H2.out _).mono ?_); rintro e w3 ⟨rfl, hb⟩; have F3 := Lib.hid (F2.out.below hb); have HB3 := Lib.hid (bel0 HB2.out hb); clear t1 t2 u1 u2 u3 u4 v1 v2 v3 v4 hz hy; obtain ⟨⟨t1, t2⟩, ⟨u1, u2, u3, u4⟩, ⟨v1, v2, v3, v4⟩, hz, hy⟩ := F3.out.cells; clear hb))
        | (go_at_call 15; ((with_reducible refine (HM.out _).mono ?_); rintro e w4 ⟨rfl, hb⟩; have F4 := Lib.hid (F3.out.below hb); have HB4 := Lib.hid (bel0 HB3.out hb); clear t1 t2 u1 u2 u3 u4 v1 v2 v3 v4 hz hy; obtain ⟨⟨t1, t2⟩, ⟨u1, u2, u3, u4⟩, ⟨v1, v2, v3, v4⟩, hz, hy⟩ := F4.out.cells; clear hb))
        | fail)
      go_ret
      exact ⟨rfl, HB4.out.trans ((below1 _ _).mono HB4.out.size)⟩
    · have hz1 : (z' != 0) = true := by simpa using h
      clear h
      by_cases h0 : z = 0
      · subst h0
        go_enter Try.func4, Try.ntmps4
        go_wp2_with (first
          | (go_at_call 10; ((with_reducible refine (awake_any _).mono ?_); rintro e w1 ⟨rfl, hb⟩; have F1 : Hid (GQ w1 w.heap.size k n a b c d a' b' c' d') := ⟨block_below (block_alloc (heap_alloc_new w _) _) hb, block_below (by have := heap_alloc_new (w.alloc (.cells #[.int .i64 k, .int .i64 n] 24)) (.cells #[.int .i64 a, .int .i64 b, .int .i64 c, .int .i64 d, .int .i64 a', .int .i64 b', .int .i64 c', .int .i64 d'] 36); simpa using this) hb⟩; have HB1 : Hid (Below w.heap.size w w1) := bel2 (Below.refl _ _) hb; obtain ⟨⟨t1, t2⟩, ⟨u1, u2, u3, u4⟩, ⟨v1, v2, v3, v4⟩, hz, hy⟩ := F1.out.cells; clear hb))
          | (go_at_call 11; ((with_reducible refine (H1.out _).mono ?_); rintro e w2 ⟨rfl, hb⟩; have F2 := Lib.hid (F1.out.below hb); have HB2 := Lib.hid (bel0 HB1.out hb); clear t1 t2 u1 u2 u3 u4 v1 v2 v3 v4 hz hy; obtain ⟨⟨t1, t2⟩, ⟨u1, u2, u3, u4⟩, ⟨v1, v2, v3, v4⟩, hz, hy⟩ := F2.out.cells; clear hb))
          | (go_at_call 11; ((with_reducible refine (H2.out _).mono ?_); rintro e w3 ⟨rfl, hb⟩; have F3 := Lib.hid (F2.out.below hb); have HB3 := Lib.hid (bel0 HB2.out hb); clear t1 t2 u1 u2 u3 u4 v1 v2 v3 v4 hz hy; obtain ⟨⟨t1, t2⟩, ⟨u1, u2, u3, u4⟩, ⟨v1, v2, v3, v4⟩, hz, hy⟩ := F3.out.cells; clear hb))
          | (go_at_call 15; ((with_reducible refine (HM.out _).mono ?_); rintro e w4 ⟨rfl, hb⟩; have F4 := Lib.hid (F3.out.below hb); have HB4 := Lib.hid (bel0 HB3.out hb); clear t1 t2 u1 u2 u3 u4 v1 v2 v3 v4 hz hy; obtain ⟨⟨t1, t2⟩, ⟨u1, u2, u3, u4⟩, ⟨v1, v2, v3, v4⟩, hz, hy⟩ := F4.out.cells; clear hb))
          | fail)
        go_ret
        exact ⟨rfl, HB4.out.trans ((below1 _ _).mono HB4.out.size)⟩
      · have hz0 : (z != 0) = true := by simpa using h0
        clear h0
        go_enter Try.func4, Try.ntmps4
        go_wp2_with (first
          | (go_at_call 10; ((with_reducible refine (awake_any _).mono ?_); rintro e w1 ⟨rfl, hb⟩; have F1 : Hid (GQ w1 w.heap.size k n a b c d a' b' c' d') := ⟨block_below (block_alloc (heap_alloc_new w _) _) hb, block_below (by have := heap_alloc_new (w.alloc (.cells #[.int .i64 k, .int .i64 n] 24)) (.cells #[.int .i64 a, .int .i64 b, .int .i64 c, .int .i64 d, .int .i64 a', .int .i64 b', .int .i64 c', .int .i64 d'] 36); simpa using this) hb⟩; have HB1 : Hid (Below w.heap.size w w1) := bel2 (Below.refl _ _) hb; obtain ⟨⟨t1, t2⟩, ⟨u1, u2, u3, u4⟩, ⟨v1, v2, v3, v4⟩, hz, hy⟩ := F1.out.cells; clear hb))
          | (go_at_call 11; ((with_reducible refine (H1.out _).mono ?_); rintro e w2 ⟨rfl, hb⟩; have F2 := Lib.hid (F1.out.below hb); have HB2 := Lib.hid (bel0 HB1.out hb); clear t1 t2 u1 u2 u3 u4 v1 v2 v3 v4 hz hy; obtain ⟨⟨t1, t2⟩, ⟨u1, u2, u3, u4⟩, ⟨v1, v2, v3, v4⟩, hz, hy⟩ := F2.out.cells; clear hb))
          | (go_at_call 11; ((with_reducible refine (H2.out _).mono ?_); rintro e w3 ⟨rfl, hb⟩; have F3 := Lib.hid (F2.out.below hb); have HB3 := Lib.hid (bel0 HB2.out hb); clear t1 t2 u1 u2 u3 u4 v1 v2 v3 v4 hz hy; obtain ⟨⟨t1, t2⟩, ⟨u1, u2, u3, u4⟩, ⟨v1, v2, v3, v4⟩, hz, hy⟩ := F3.out.cells; clear hb))
          | (go_at_call 15; ((with_reducible refine (HM.out _).mono ?_); rintro e w4 ⟨rfl, hb⟩; have F4 := Lib.hid (F3.out.below hb); have HB4 := Lib.hid (bel0 HB3.out hb); clear t1 t2 u1 u2 u3 u4 v1 v2 v3 v4 hz hy; obtain ⟨⟨t1, t2⟩, ⟨u1, u2, u3, u4⟩, ⟨v1, v2, v3, v4⟩, hz, hy⟩ := F4.out.cells; clear hb))
          | fail)
        go_ret
        exact ⟨rfl, HB4.out.trans ((below1 _ _).mono HB4.out.size)⟩
    · have hz1 : (km != 0) = true := by simpa using h
      clear h
      by_cases h0 : z = 0
      · subst h0
        by_cases h0 : z' = 0
        · subst h0
          go_enter Try.func4, Try.ntmps4
          go_wp2_with (first
            | (go_at_call 10; ((with_reducible refine (awake_any _).mono ?_); rintro e w1 ⟨rfl, hb⟩; have F1 : Hid (GQ w1 w.heap.size k n a b c d a' b' c' d') := ⟨block_below (block_alloc (heap_alloc_new w _) _) hb, block_below (by have := heap_alloc_new (w.alloc (.cells #[.int .i64 k, .int .i64 n] 24)) (.cells #[.int .i64 a, .int .i64 b, .int .i64 c, .int .i64 d, .int .i64 a', .int .i64 b', .int .i64 c', .int .i64 d'] 36); simpa using this) hb⟩; have HB1 : Hid (Below w.heap.size w w1) := bel2 (Below.refl _ _) hb; obtain ⟨⟨t1, t2⟩, ⟨u1, u2, u3, u4⟩, ⟨v1, v2, v3, v4⟩, hz, hy⟩ := F1.out.cells; clear hb))
            | (go_at_call 11; ((with_reducible refine (H1.out _).mono ?_); rintro e w2 ⟨rfl, hb⟩; have F2 := Lib.hid (F1.out.below hb); have HB2 := Lib.hid (bel0 HB1.out hb); clear t1 t2 u1 u2 u3 u4 v1 v2 v3 v4 hz hy; obtain ⟨⟨t1, t2⟩, ⟨u1, u2, u3, u4⟩, ⟨v1, v2, v3, v4⟩, hz, hy⟩ := F2.out.cells; clear hb))
            | (go_at_call 11; ((with_reducible refine (H2.out _).mono ?_); rintro e w3 ⟨rfl, hb⟩; have F3 := Lib.hid (F2.out.below hb); have HB3 := Lib.hid (bel0 HB2.out hb); clear t1 t2 u1 u2 u3 u4 v1 v2 v3 v4 hz hy; obtain ⟨⟨t1, t2⟩, ⟨u1, u2, u3, u4⟩, ⟨v1, v2, v3, v4⟩, hz, hy⟩ := F3.out.cells; clear hb))
            | (go_at_call 15; ((with_reducible refine (HM.out _).mono ?_); rintro e w4 ⟨rfl, hb⟩; have F4 := Lib.hid (F3.out.below hb); have HB4 := Lib.hid (bel0 HB3.out hb); clear t1 t2 u1 u2 u3 u4 v1 v2 v3 v4 hz hy; obtain ⟨⟨t1, t2⟩, ⟨u1, u2, u3, u4⟩, ⟨v1, v2, v3, v4⟩, hz, hy⟩ := F4.out.cells; clear hb))
            | fail)
          go_ret
          exact ⟨rfl, HB4.out.trans ((below1 _ _).mono HB4.out.size)⟩
        · have hz0 : (z' != 0) = true := by simpa using h0
          clear h0
          go_enter Try.func4, Try.ntmps4
          go_wp2_with (first
            | (go_at_call 10; ((with_reducible refine (awake_any _).mono ?_); rintro e w1 ⟨rfl, hb⟩; have F1 : Hid (GQ w1 w.heap.size k n a b c d a' b' c' d') := ⟨block_below (block_alloc (heap_alloc_new w _) _) hb, block_below (by have := heap_alloc_new (w.alloc (.cells #[.int .i64 k, .int .i64 n] 24)) (.cells #[.int .i64 a, .int .i64 b, .int .i64 c, .int .i64 d, .int .i64 a', .int .i64 b', .int .i64 c', .int .i64 d'] 36); simpa using this) hb⟩; have HB1 : Hid (Below w.heap.size w w1) := bel2 (Below.refl _ _) hb; obtain ⟨⟨t1, t2⟩, ⟨u1, u2, u3, u4⟩, ⟨v1, v2, v3, v4⟩, hz, hy⟩ := F1.out.cells; clear hb))
            | (go_at_call 11; ((with_reducible refine (H1.out _).mono ?_); rintro e w2 ⟨rfl, hb⟩; have F2 := Lib.hid (F1.out.below hb); have HB2 := Lib.hid (bel0 HB1.out hb); clear t1 t2 u1 u2 u3 u4 v1 v2 v3 v4 hz hy; obtain ⟨⟨t1, t2⟩, ⟨u1, u2, u3, u4⟩, ⟨v1, v2, v3, v4⟩, hz, hy⟩ := F2.out.cells; clear hb))
            | (go_at_call 11; ((with_reducible refine (H2.out _).mono ?_); rintro e w3 ⟨rfl, hb⟩; have F3 := Lib.hid (F2.out.below hb); have HB3 := Lib.hid (bel0 HB2.out hb); clear t1 t2 u1 u2 u3 u4 v1 v2 v3 v4 hz hy; obtain ⟨⟨t1, t2⟩, ⟨u1, u2, u3, u4⟩, ⟨v1, v2, v3, v4⟩, hz, hy⟩ := F3.out.cells; clear hb))
            | (go_at_call 15; ((with_reducible refine (HM.out _).mono ?_); rintro e w4 ⟨rfl, hb⟩; have F4 := Lib.hid (F3.out.below hb); have HB4 := Lib.hid (bel0 HB3.out hb); clear t1 t2 u1 u2 u3 u4 v1 v2 v3 v4 hz hy; obtain ⟨⟨t1, t2⟩, ⟨u1, u2, u3, u4⟩, ⟨v1, v2, v3, v4⟩, hz, hy⟩ := F4.out.cells; clear hb))
            | fail)
          go_ret
          exact ⟨rfl, HB4.out.trans ((below1 _ _).mono HB4.out.size)⟩
      · have hz0 : (z != 0) = true := by simpa using h0
        clear h0
        go_enter Try.func4, Try.ntmps4
        go_wp2_with (first
          | (go_at_call 10; ((with_reducible refine (awake_any _).mono ?_); rintro e w1 ⟨rfl, hb⟩; have F1 : Hid (GQ w1 w.heap.size k n a b c d a' b' c' d') := ⟨block_below (block_alloc (heap_alloc_new w _) _) hb, block_below (by have := heap_alloc_new (w.alloc (.cells #[.int .i64 k, .int .i64 n] 24)) (.cells #[.int .i64 a, .int .i64 b, .int .i64 c, .int .i64 d, .int .i64 a', .int .i64 b', .int .i64 c', .int .i64 d'] 36); simpa using this) hb⟩; have HB1 : Hid (Below w.heap.size w w1) := bel2 (Below.refl _ _) hb; obtain ⟨⟨t1, t2⟩, ⟨u1, u2, u3, u4⟩, ⟨v1, v2, v3, v4⟩, hz, hy⟩ := F1.out.cells; clear hb))
          | (go_at_call 11; ((with_reducible refine (H1.out _).mono ?_); rintro e w2 ⟨rfl, hb⟩; have F2 := Lib.hid (F1.out.below hb); have HB2 := Lib.hid (bel0 HB1.out hb); clear t1 t2 u1 u2 u3 u4 v1 v2 v3 v4 hz hy; obtain ⟨⟨t1, t2⟩, ⟨u1, u2, u3, u4⟩, ⟨v1, v2, v3, v4⟩, hz, hy⟩ := F2.out.cells; clear hb))
          | (go_at_call 11; ((with_reducible refine (H2.out _).mono ?_); rintro e w3 ⟨rfl, hb⟩; have F3 := Lib.hid (F2.out.below hb); have HB3 := Lib.hid (bel0 HB2.out hb); clear t1 t2 u1 u2 u3 u4 v1 v2 v3 v4 hz hy; obtain ⟨⟨t1, t2⟩, ⟨u1, u2, u3, u4⟩, ⟨v1, v2, v3, v4⟩, hz, hy⟩ := F3.out.cells; clear hb))
          | (go_at_call 15; ((with_reducible refine (HM.out _).mono ?_); rintro e w4 ⟨rfl, hb⟩; have F4 := Lib.hid (F3.out.below hb); have HB4 := Lib.hid (bel0 HB3.out hb); clear t1 t2 u1 u2 u3 u4 v1 v2 v3 v4 hz hy; obtain ⟨⟨t1, t2⟩, ⟨u1, u2, u3, u4⟩, ⟨v1, v2, v3, v4⟩, hz, hy⟩ := F4.out.cells; clear hb))
          | fail)
        go_ret
        exact ⟨rfl, HB4.out.trans ((below1 _ _).mono HB4.out.size)⟩
  have e1 : hasE k n a b c d = 0 := Decidable.byContradiction fun h => hbad (.inl h)
  have e2 : hasE k n a' b' c' d' = 0 := Decidable.byContradiction fun h => hbad (.inr (.inl h))
  obtain rfl : km = 0 := Decidable.byContradiction fun h => hbad (.inr (.inr h))
  clear hbad
  obtain ⟨okx, oky, hpq, okm⟩ := mulE_zero hm
  have hp : p = a * a' + b * c' ∧ q = a * b' + b * d' ∧ r = c * a' + d * c' ∧ s = c * b' + d * d' := by
    have := hpq
    simp only [M.mul, M.mk.injEq] at this
    exact this
  obtain ⟨hk, hn, hfx, hdx⟩ := hasE_zero e1
  obtain ⟨_, _, hfy, hdy⟩ := hasE_zero e2
  have hdm : p * s - q * r = 1 := by
    obtain ⟨rfl, rfl, rfl, rfl⟩ := hp
    clear H1 H2 HM hm okx oky hpq okm e1 e2 hfx hfy hk hn
    grind
  have e5 : hasE k n p q r s = 0 := hasE_ok ⟨hk, hn⟩ okm hdm
  obtain ⟨⟨a1, a2⟩, ⟨b1, b2⟩, ⟨c1, c2⟩, ⟨d1, d2⟩⟩ := fitB_iff.1 hfx
  have hfi : fitB d (-b) (-c) a = true := fitB_iff.2 ⟨⟨d1, d2⟩, ⟨by omega, by omega⟩, ⟨by omega, by omega⟩, ⟨a1, a2⟩⟩
  have e6 : hasE k n d (-b) (-c) a = 0 := hasE_ok ⟨hk, hn⟩ hfi (by clear H1 H2 HM hm okx oky hpq okm e1 e2 hfx hfy hk hn hp hdm hdy e5 hfi; grind)
  have hchk : chkI a b c d = 0 := by
    rcases chk_cases a b c d with ⟨e, _⟩ | ⟨_, _, e⟩ | ⟨_, e, _⟩
    · rw [hfx] at e; cases e
    · exact e
    · exact absurd hdx e
  have HI := Lib.hid (fun W => inverse_any a b c d d (-b) (-c) a 0 W (by unfold invE; dsimp only; rw [if_pos hchk]; rfl))
  have H5 := Lib.hid (fun W => has_any k n p q r s W)
  have H6 := Lib.hid (fun W => has_any k n d (-b) (-c) a W)
  rw [hasR_zero e1, e1] at H1
  rw [hasR_zero e2, e2] at H2
  rw [hasR_zero e5, e5] at H5
  rw [hasR_zero e6, e6, has_inv hk] at H6
  have hA : hasV k n a b c d = true → hasV k n p q r s = hasV k n a' b' c' d' := fun h => by
    rw [hp.1, hp.2.1, hp.2.2.1, hp.2.2.2]; exact has_left hk hdx h
  have hB : hasV k n a' b' c' d' = true → hasV k n p q r s = hasV k n a b c d := fun h => by
    rw [hp.1, hp.2.1, hp.2.2.1, hp.2.2.2]; exact has_right hk hdy h
  clear hm okx oky hpq okm e1 e2 e5 e6 hfx hfy hk hn hp hdm hdx hdy hfi hchk
  generalize hasV k n a b c d = A at *
  generalize hasV k n a' b' c' d' = B at *
  generalize hasV k n p q r s = C at *
  cases A <;> cases B <;> cases C
  all_goals first
    | exact absurd (hA rfl) (by decide)
    | exact absurd (hB rfl) (by decide)
    | skip
  all_goals
    clear hA hB
    go_enter Try.func4, Try.ntmps4
    go_wp2_with (first
      | (go_at_call 10; ((with_reducible refine (awake_any _).mono ?_); rintro e w1 ⟨rfl, hb⟩; have F1 : Hid (GQ w1 w.heap.size k n a b c d a' b' c' d') := ⟨block_below (block_alloc (heap_alloc_new w _) _) hb, block_below (by have := heap_alloc_new (w.alloc (.cells #[.int .i64 k, .int .i64 n] 24)) (.cells #[.int .i64 a, .int .i64 b, .int .i64 c, .int .i64 d, .int .i64 a', .int .i64 b', .int .i64 c', .int .i64 d'] 36); simpa using this) hb⟩; have HB1 : Hid (Below w.heap.size w w1) := bel2 (Below.refl _ _) hb; obtain ⟨⟨t1, t2⟩, ⟨u1, u2, u3, u4⟩, ⟨v1, v2, v3, v4⟩, hz, hy⟩ := F1.out.cells; clear hb))
      | (go_at_call 11; ((with_reducible refine (H1.out _).mono ?_); rintro e w2 ⟨rfl, hb⟩; have F2 := Lib.hid (F1.out.below hb); have HB2 := Lib.hid (bel0 HB1.out hb); clear t1 t2 u1 u2 u3 u4 v1 v2 v3 v4 hz hy; obtain ⟨⟨t1, t2⟩, ⟨u1, u2, u3, u4⟩, ⟨v1, v2, v3, v4⟩, hz, hy⟩ := F2.out.cells; clear hb))
      | (go_at_call 11; ((with_reducible refine (H2.out _).mono ?_); rintro e w3 ⟨rfl, hb⟩; have F3 := Lib.hid (F2.out.below hb); have HB3 := Lib.hid (bel0 HB2.out hb); clear t1 t2 u1 u2 u3 u4 v1 v2 v3 v4 hz hy; obtain ⟨⟨t1, t2⟩, ⟨u1, u2, u3, u4⟩, ⟨v1, v2, v3, v4⟩, hz, hy⟩ := F3.out.cells; clear hb))
      | (go_at_call 15; ((with_reducible refine (HM.out _).mono ?_); rintro e w4 ⟨rfl, hb⟩; have F4 := Lib.hid (F3.out.below hb); have HB4 := Lib.hid (bel0 HB3.out hb); clear t1 t2 u1 u2 u3 u4 v1 v2 v3 v4 hz hy; obtain ⟨⟨t1, t2⟩, ⟨u1, u2, u3, u4⟩, ⟨v1, v2, v3, v4⟩, hz, hy⟩ := F4.out.cells; clear hb))
      | (go_at_call 11; ((with_reducible refine (H5.out _).mono ?_); rintro e w5 ⟨rfl, hb⟩; have F5 := Lib.hid ((F4.out.below (below1 _ _)).below hb); have HB5 := Lib.hid (bel1 HB4.out hb); clear t1 t2 u1 u2 u3 u4 v1 v2 v3 v4 hz hy; obtain ⟨⟨t1, t2⟩, ⟨u1, u2, u3, u4⟩, ⟨v1, v2, v3, v4⟩, hz, hy⟩ := F5.out.cells; clear hb))
      | (go_at_call 16; ((with_reducible refine (HI.out _).mono ?_); rintro e w6 ⟨rfl, hb⟩; have F6 := Lib.hid (F5.out.below hb); have HB6 := Lib.hid (bel0 HB5.out hb); clear t1 t2 u1 u2 u3 u4 v1 v2 v3 v4 hz hy; obtain ⟨⟨t1, t2⟩, ⟨u1, u2, u3, u4⟩, ⟨v1, v2, v3, v4⟩, hz, hy⟩ := F6.out.cells; clear hb))
      | (go_at_call 11; ((with_reducible refine (H6.out _).mono ?_); rintro e w7 ⟨rfl, hb⟩; have HB7 := Lib.hid (bel1 HB6.out hb); clear t1 t2 u1 u2 u3 u4 v1 v2 v3 v4 hz hy; clear hb))
      | fail)
    go_ret
    exact ⟨rfl, HB7.out⟩
end Go.Proofs.Ytfiooghodjiknaa
