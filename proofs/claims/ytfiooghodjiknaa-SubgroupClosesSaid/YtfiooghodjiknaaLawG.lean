/- SubgroupHas, SubgroupChains, SubgroupCloses answer true for all arguments. -/
import Derived.Test.YtfiooghodjiknaaAwakeG
import Derived.Test.YtfiooghodjiknaaHasK
import Derived.Test.YtfiooghodjiknaaRHasK
import Derived.Test.YtfiooghodjiknaaGrpM
namespace Go.Proofs.Ytfiooghodjiknaa
open Go.RowKit
set_option linter.unusedVariables false
set_option linter.unusedSimpArgs false

set_option maxHeartbeats 6400000 in
set_option maxRecDepth 1000000 in
theorem lhas_walk (k n a b c d : Int) (w : World) :
    Calls Try.prog 3 #[.agg #[.int .i64 k, .int .i64 n], .agg #[.int .i64 a, .int .i64 b, .int .i64 c, .int .i64 d]] w fun e w' => e = .returned (.bool true) ∧ Below w.heap.size w w' := by
  have HH := Lib.hid (fun W => has_any k n a b c d W)
  have HR := Lib.hid (fun W => rhas_any k n a b c d W)
  have HC := Lib.hid (fun W => gcheck_any k n W)
  have HD := Lib.hid (fun W => rgcheck_any k n W)
  generalize hasR k n a b c d = v at *
  generalize hasE k n a b c d = z at *
  generalize gckI k n = g at *
  go_enter Try.func3, Try.ntmps3
  go_upto_region 5 with (first
    | (go_at_call 10; ((with_reducible refine (awake_any _).mono ?_); rintro e w1 ⟨rfl, hb⟩; have T1 : Hid (w1.heap[w.heap.size]? = some (.cells #[.int .i64 k, .int .i64 n] 24 (0, 0))) := block_below (block_alloc (heap_alloc_new w _) _) hb; have U1 : Hid (w1.heap[w.heap.size + 1]? = some (.cells #[.int .i64 a, .int .i64 b, .int .i64 c, .int .i64 d] 26 (0, 0))) := block_below (by have := heap_alloc_new (w.alloc (.cells #[.int .i64 k, .int .i64 n] 24)) (.cells #[.int .i64 a, .int .i64 b, .int .i64 c, .int .i64 d] 26); simpa using this) hb; have HB1 : Hid (Below w.heap.size w w1) := bel2 (Below.refl _ _) hb; obtain ⟨⟨u1, u2, u3, u4⟩, _⟩ := four_of_block U1.out; obtain ⟨⟨t1, t2⟩, _⟩ := two_of_block T1.out; clear hb))
    | (go_at_call 11; ((with_reducible refine (HH.out _).mono ?_); rintro e w2 ⟨rfl, hb⟩; have T2 := Lib.hid (block_below T1.out hb); have U2 := Lib.hid (block_below U1.out hb); have HB2 := Lib.hid (bel0 HB1.out hb); clear u1 u2 u3 u4 t1 t2; obtain ⟨⟨u1, u2, u3, u4⟩, _⟩ := four_of_block U2.out; obtain ⟨⟨t1, t2⟩, _⟩ := two_of_block T2.out; clear hb))
    | (go_at_call 12; ((with_reducible refine (HR.out _).mono ?_); rintro e w3 ⟨rfl, hb⟩; have T3 := Lib.hid (block_below T2.out hb); have HB3 := Lib.hid (bel0 HB2.out hb); clear u1 u2 u3 u4 t1 t2 hb))
    | fail)
  have T3d : Hid (w3.drew.heap[w.heap.size]? = some (.cells #[.int .i64 k, .int .i64 n] 24 (0, 0))) := block_below T3.out ((Below.refl _ w3).drew)
  have HB3d : Hid (Below w.heap.size w w3.drew) := HB3.out.drew
  have t3 := (two_of_block T3d.out).1
  go_region_held3 (fun w' => w'.cell? ⟨w.heap.size, 0, none⟩ = some (.int .i64 k) ∧ w'.cell? ⟨w.heap.size, 1, none⟩ = some (.int .i64 n))
    (with_reducible first | exact (two_of_block T6.out).1 | exact (two_of_block T5.out).1 | exact (two_of_block T3d.out).1 | fail)
    (first
      | (go_at_call 13; ((with_reducible refine (HC.out _).mono ?_); rintro e w5 ⟨rfl, hb⟩; have T5 := Lib.hid (block_below T3d.out hb); have HB5 := Lib.hid (bel0 HB3d.out hb); clear hb))
      | (go_at_call 14; ((with_reducible refine (HD.out _).mono ?_); rintro e w6 ⟨rfl, hb⟩; have T6 := Lib.hid (block_below T5.out hb); have HB6 := Lib.hid (bel0 HB5.out hb); clear hb))
      | fail)
  go_wp2
  go_ret
  exact ⟨rfl, HB6.out⟩
theorem hasE_kind {k k' n a b c d : Int} (h : 1 ≤ k ∧ k ≤ 4) (h' : 1 ≤ k' ∧ k' ≤ 4) : hasE k n a b c d = hasE k' n a b c d := by
  have e : gckI k n = gckI k' n := by
    unfold gckI
    rw [if_neg (by omega : ¬ (k < 1 ∨ 4 < k)), if_neg (by omega : ¬ (k' < 1 ∨ 4 < k'))]
  unfold hasE
  rw [e]
theorem hasE_zero {k n a b c d : Int} (h : hasE k n a b c d = 0) : (1 ≤ k ∧ k ≤ 4) ∧ (1 ≤ n ∧ n ≤ 120) ∧ fitB a b c d = true ∧ a * d - b * c = 1 := by
  unfold hasE at h
  by_cases hg : gckI k n = 0
  · rw [if_pos hg] at h
    refine ⟨?_, ?_, ?_⟩
    · rcases gck_cases k n with ⟨_, e⟩ | ⟨_, _, e⟩ | ⟨h, h2, _⟩
      · rw [hg] at e; exact absurd e (by decide)
      · rw [hg] at e; exact absurd e (by decide)
      · exact h
    · rcases gck_cases k n with ⟨_, e⟩ | ⟨_, _, e⟩ | ⟨h, h2, _⟩
      · rw [hg] at e; exact absurd e (by decide)
      · rw [hg] at e; exact absurd e (by decide)
      · exact h2
    · rcases chk_cases a b c d with ⟨_, e⟩ | ⟨h, h2, _⟩ | ⟨_, _, e⟩
      · rw [h] at e; exact absurd e (by decide)
      · exact ⟨h, h2⟩
      · rw [h] at e; exact absurd e (by decide)
  · rw [if_neg hg] at h; exact absurd h hg
theorem hasE_ok {k n a b c d : Int} (h : (1 ≤ k ∧ k ≤ 4) ∧ (1 ≤ n ∧ n ≤ 120)) (hf : fitB a b c d = true) (hd : a * d - b * c = 1) : hasE k n a b c d = 0 := by
  have hg : gckI k n = 0 := by
    unfold gckI
    rw [if_neg (by omega), if_neg (by omega)]
  unfold hasE
  rw [if_pos hg]
  rcases chk_cases a b c d with ⟨e, _⟩ | ⟨_, _, e⟩ | ⟨_, e, _⟩
  · rw [hf] at e; cases e
  · exact e
  · exact absurd hd e
theorem hasR_zero {k n a b c d : Int} (h : hasE k n a b c d = 0) : hasR k n a b c d = hasV k n a b c d := if_pos h
theorem hasR_bad {k n a b c d : Int} (h : hasE k n a b c d ≠ 0) : hasR k n a b c d = false := if_neg h
theorem chain1 {n a b c d : Int} (h : hasV 3 n a b c d = true) : hasV 2 n a b c d = true := by
  rw [hasV_iff] at h ⊢
  simp only [PH, reduceIte, Int.reduceEq] at h ⊢
  exact ⟨h.1, h.2.1⟩
theorem chain2 {n a b c d : Int} (h : hasV 2 n a b c d = true) : hasV 1 n a b c d = true := by
  rw [hasV_iff] at h ⊢
  simp only [PH, reduceIte, Int.reduceEq] at h ⊢
  exact h.1
theorem chain3 {n a b c d : Int} : hasV 4 n d (-c) (-b) a = hasV 1 n a b c d := bool_iff (by
  rw [hasV_iff, hasV_iff]
  simp only [PH, reduceIte, Int.reduceEq, Int.dvd_neg])
set_option maxHeartbeats 6400000 in
set_option maxRecDepth 1000000 in
theorem lchn_walk (n a b c d : Int) (w : World) :
    Calls Try.prog 9 #[.int .i64 n, .agg #[.int .i64 a, .int .i64 b, .int .i64 c, .int .i64 d]] w fun e w' => e = .returned (.bool true) ∧ Below w.heap.size w w' := by
  have H3 := Lib.hid (fun W => has_any 3 n a b c d W)
  have H2 := Lib.hid (fun W => has_any 2 n a b c d W)
  have H1 := Lib.hid (fun W => has_any 1 n a b c d W)
  rw [hasE_kind (k := 3) (k' := 1) (by decide) (by decide)] at H3
  rw [hasE_kind (k := 2) (k' := 1) (by decide) (by decide)] at H2
  by_cases hE : hasE 1 n a b c d = 0
  case neg =>
    rw [hasR_bad (by rw [hasE_kind (k := 3) (k' := 1) (by decide) (by decide)]; exact hE)] at H3
    rw [hasR_bad (by rw [hasE_kind (k := 2) (k' := 1) (by decide) (by decide)]; exact hE)] at H2
    rw [hasR_bad hE] at H1
    have H4 : Hid (∀ (W : World) (x y z t : Int), Calls Try.prog 11 #[.agg #[.int .i64 4, .int .i64 n], .agg #[.int .i64 x, .int .i64 y, .int .i64 z, .int .i64 t]] W fun e w' => ∃ (v : Bool) (k : Int), e = .returned (.tuple #[.bool v, .int .i64 k]) ∧ Below W.heap.size W w') := fun W x y z t => (has_any 4 n x y z t W).mono fun e w' h => ⟨_, _, h.1, h.2⟩
    have hz : (hasE 1 n a b c d != 0) = true := by simpa using hE
    clear hE
    generalize hasE 1 n a b c d = z at *
    go_enter Try.func9, Try.ntmps9
    go_wp2_with (first
      | (go_at_call 10; ((with_reducible refine (awake_any _).mono ?_); rintro e w1 ⟨rfl, hb⟩; have U1 : Hid (Four w1 w.heap.size a b c d) := (Four.at w rfl a b c d).below hb; have HB1 : Hid (Below w.heap.size w w1) := bel1 (Below.refl _ _) hb; obtain ⟨u1, u2, u3, u4⟩ := U1.out.cells; clear hb))
      | (go_at_call 11; ((with_reducible refine (H3.out _).mono ?_); rintro e w2 ⟨rfl, hb⟩; have U2 := Lib.hid (U1.out.below hb); have HB2 := Lib.hid (bel0 HB1.out hb); clear u1 u2 u3 u4 hb; obtain ⟨u1, u2, u3, u4⟩ := U2.out.cells))
      | (go_at_call 11; ((with_reducible refine (H2.out _).mono ?_); rintro e w3 ⟨rfl, hb⟩; have U3 := Lib.hid (U2.out.below hb); have HB3 := Lib.hid (bel0 HB2.out hb); clear u1 u2 u3 u4 hb; obtain ⟨u1, u2, u3, u4⟩ := U3.out.cells))
      | (go_at_call 11; ((with_reducible refine (H1.out _).mono ?_); rintro e w4 ⟨rfl, hb⟩; have U4 := Lib.hid (U3.out.below hb); have HB4 := Lib.hid (bel0 HB3.out hb); clear u1 u2 u3 u4 hb; obtain ⟨u1, u2, u3, u4⟩ := U4.out.cells))
      | (go_at_call 11; ((with_reducible refine (H4.out _ _ _ _ _).mono ?_); rintro e w5 ⟨v, k, rfl, hb⟩; have HB5 := Lib.hid (bel0 HB4.out hb); clear u1 u2 u3 u4 hb))
      | fail)
    go_ret
    exact ⟨rfl, HB5.out⟩
  obtain ⟨_, _, hfit, hdet⟩ := hasE_zero hE
  obtain ⟨⟨a1, a2⟩, ⟨b1, b2⟩, ⟨c1, c2⟩, ⟨d1, d2⟩⟩ := fitB_iff.1 hfit
  have H4 := Lib.hid (fun W => has_any 4 n d (-c) (-b) a W)
  have hfit' : fitB d (-c) (-b) a = true := fitB_iff.2 ⟨⟨d1, d2⟩, ⟨by omega, by omega⟩, ⟨by omega, by omega⟩, ⟨a1, a2⟩⟩
  have hE4 : hasE 4 n d (-c) (-b) a = 0 := by
    have h := hasE_zero hE
    exact hasE_ok ⟨by decide, h.2.1⟩ hfit' (by clear hfit hfit' h H1 H2 H3 H4; grind)
  rw [hasR_zero hE4, hE4, chain3] at H4
  rw [hasR_zero (by rw [hasE_kind (k := 3) (k' := 1) (by decide) (by decide)]; exact hE), hE] at H3
  rw [hasR_zero (by rw [hasE_kind (k := 2) (k' := 1) (by decide) (by decide)]; exact hE), hE] at H2
  rw [hasR_zero hE, hE] at H1
  have h32 : hasV 3 n a b c d = true → hasV 2 n a b c d = true := chain1
  have h21 : hasV 2 n a b c d = true → hasV 1 n a b c d = true := chain2
  clear hE hE4 hfit hfit' hdet
  generalize hasV 3 n a b c d = v3 at *
  generalize hasV 2 n a b c d = v2 at *
  generalize hasV 1 n a b c d = v1 at *
  cases v3 <;> cases v2 <;> cases v1
  all_goals first
    | exact absurd (h32 rfl) (by decide)
    | exact absurd (h21 rfl) (by decide)
    | skip
  all_goals
    clear h32 h21
    go_enter Try.func9, Try.ntmps9
    go_wp2_with (first
      | (go_at_call 10; ((with_reducible refine (awake_any _).mono ?_); rintro e w1 ⟨rfl, hb⟩; have U1 : Hid (Four w1 w.heap.size a b c d) := (Four.at w rfl a b c d).below hb; have HB1 : Hid (Below w.heap.size w w1) := bel1 (Below.refl _ _) hb; obtain ⟨u1, u2, u3, u4⟩ := U1.out.cells; clear hb))
      | (go_at_call 11; ((with_reducible refine (H3.out _).mono ?_); rintro e w2 ⟨rfl, hb⟩; have U2 := Lib.hid (U1.out.below hb); have HB2 := Lib.hid (bel0 HB1.out hb); clear u1 u2 u3 u4 hb; obtain ⟨u1, u2, u3, u4⟩ := U2.out.cells))
      | (go_at_call 11; ((with_reducible refine (H2.out _).mono ?_); rintro e w3 ⟨rfl, hb⟩; have U3 := Lib.hid (U2.out.below hb); have HB3 := Lib.hid (bel0 HB2.out hb); clear u1 u2 u3 u4 hb; obtain ⟨u1, u2, u3, u4⟩ := U3.out.cells))
      | (go_at_call 11; ((with_reducible refine (H1.out _).mono ?_); rintro e w4 ⟨rfl, hb⟩; have U4 := Lib.hid (U3.out.below hb); have HB4 := Lib.hid (bel0 HB3.out hb); clear u1 u2 u3 u4 hb; obtain ⟨u1, u2, u3, u4⟩ := U4.out.cells))
      | (go_at_call 11; ((with_reducible refine (H4.out _).mono ?_); rintro e w5 ⟨rfl, hb⟩; have HB5 := Lib.hid (bel0 HB4.out hb); clear u1 u2 u3 u4 hb))
      | fail)
    go_ret
    exact ⟨rfl, HB5.out⟩
end Go.Proofs.Ytfiooghodjiknaa
