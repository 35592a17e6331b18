/- The reference's Has for Gamma0. -/
import Derived.Test.YtcjkdcbminpjlaaDetL
import Derived.Test.YtcjkdcbminpjlaaBoxL
namespace Go.Proofs.Ytcjkdcbminpjlaa
open Go.RowKit

set_option maxHeartbeats 800000 in
set_option maxRecDepth 1000000 in
theorem check23 (n : Int) (w : World) (n1 : 1 ≤ n) (n2 : n ≤ 120) : Calls Try.prog 36 #[.agg #[.int .i64 1, .int .i64 n]] w fun e w' => e = .returned (.int .i64 0) ∧ Below w.heap.size w w' := by
  have d1 : decide (n < 1) = false := by simp; omega
  have d2 : decide (120 < n) = false := by simp; omega
  go_enter Try.func36, Try.ntmps36
  go_wp2
  go_ret
  exact ⟨rfl, below1 _ _⟩
set_option maxHeartbeats 1600000 in
set_option maxRecDepth 1000000 in
theorem holds23 (n a b c d : Int) (w : World) (n1 : 1 ≤ n) (n2 : n ≤ 120) (hf : fitB a b c d = true) : Calls Try.prog 38 #[.agg #[.int .i64 1, .int .i64 n], .agg #[.int .i64 a, .int .i64 b, .int .i64 c, .int .i64 d]] w fun e w' => ∃ t, e = .returned (.bool t) ∧ (t = true → n ∣ c) ∧ Below w.heap.size w w' := by
  obtain ⟨⟨a1, a2⟩, ⟨b1, b2⟩, ⟨c1, c2⟩, ⟨e1, e2⟩⟩ := fitB_iff.1 hf
  clear hf
  by_cases h1 : (a - 1).tmod n = 0 <;> by_cases h2 : (d - 1).tmod n = 0 <;> by_cases h3 : c.tmod n = 0
  all_goals
    have HT : Hid (c.tmod n = 0 → n ∣ c) := fun h => Int.dvd_of_tmod_eq_zero h
    go_enter Try.func38, Try.ntmps38
    go_wp2
    go_ret
    first
      | exact ⟨_, rfl, fun h => HT.out (by first | exact h3 | simpa using h), below2 _ _ _⟩
      | fail
set_option maxHeartbeats 1600000 in
set_option maxRecDepth 1000000 in
theorem has23 (n a b c d : Int) (w : World) (n1 : 1 ≤ n) (n2 : n ≤ 120) : Calls Try.prog 14 #[.agg #[.int .i64 1, .int .i64 n], .agg #[.int .i64 a, .int .i64 b, .int .i64 c, .int .i64 d]] w fun e w' => ∃ (t : Bool) (k : Int), e = .returned (.tuple #[.bool t, .int .i64 k]) ∧ (k = 0 → t = true → n ∣ c) ∧ Below w.heap.size w w' := by
  have HC := Lib.hid (fun W => check23 n W n1 n2)
  have HK := Lib.hid (fun W => rcheck_any a b c d W)
  rcases chk_cases a b c d with ⟨h, k⟩ | ⟨h, h1, k⟩ | ⟨h, h1, k⟩
  all_goals rw [k] at HK
  case inr.inl =>
    have HH := Lib.hid (fun W => holds23 n a b c d W n1 n2 h)
    clear h h1 k
    go_enter Try.func14, Try.ntmps14
    go_wp2_with (first
      | (go_at_call 36; ((with_reducible refine (HC.out _).mono ?_); rintro e w1 ⟨rfl, hb⟩; have T : Hid (w1.heap[w.heap.size]? = some (.cells #[.int .i64 1, .int .i64 n] 37 (0, 0))) := block_below (block_alloc (heap_alloc_new w _) _) hb; have U : Hid (w1.heap[w.heap.size + 1]? = some (.cells #[.int .i64 a, .int .i64 b, .int .i64 c, .int .i64 d] 26 (0, 0))) := block_below (by have := heap_alloc_new (w.alloc (.cells #[.int .i64 1, .int .i64 n] 37)) (.cells #[.int .i64 a, .int .i64 b, .int .i64 c, .int .i64 d] 26); simpa using this) hb; have HB1 : Hid (Below w.heap.size w w1) := (below2 w _ _).trans (hb.mono (by simp; omega)); obtain ⟨⟨u1, u2, u3, u4⟩, _⟩ := four_of_block U.out; obtain ⟨⟨t1, t2⟩, _⟩ := two_of_block T.out; clear hb))
      | (go_at_call 37; ((with_reducible refine (HK.out _).mono ?_); rintro e w2 ⟨rfl, hb⟩; have T2 := Lib.hid (block_below T.out hb); have U2 := Lib.hid (block_below U.out hb); have HB2 : Hid (Below w.heap.size w w2) := HB1.out.trans (hb.mono HB1.out.size); clear u1 u2 u3 u4 t1 t2; obtain ⟨⟨u1, u2, u3, u4⟩, _⟩ := four_of_block U2.out; obtain ⟨⟨t1, t2⟩, _⟩ := two_of_block T2.out; clear hb))
      | (go_at_call 38; ((with_reducible refine (HH.out _).mono ?_); rintro e w3 ⟨t, rfl, ht, hb⟩; have HT := Lib.hid ht; have HB3 : Hid (Below w.heap.size w w3) := HB2.out.trans (hb.mono HB2.out.size); clear hb ht))
      | fail)
    go_ret2
    exact ⟨t, 0, rfl, fun _ => HT.out, HB3.out⟩
  all_goals
    clear h
    (try clear h1)
    clear k
    go_enter Try.func14, Try.ntmps14
    go_wp2_with (first
      | (go_at_call 36; ((with_reducible refine (HC.out _).mono ?_); rintro e w1 ⟨rfl, hb⟩; have U : Hid (w1.heap[w.heap.size + 1]? = some (.cells #[.int .i64 a, .int .i64 b, .int .i64 c, .int .i64 d] 26 (0, 0))) := block_below (by have := heap_alloc_new (w.alloc (.cells #[.int .i64 1, .int .i64 n] 37)) (.cells #[.int .i64 a, .int .i64 b, .int .i64 c, .int .i64 d] 26); simpa using this) hb; have HB1 : Hid (Below w.heap.size w w1) := (below2 w _ _).trans (hb.mono (by simp; omega)); obtain ⟨⟨u1, u2, u3, u4⟩, _⟩ := four_of_block U.out; clear hb))
      | (go_at_call 37; ((with_reducible refine (HK.out _).mono ?_); rintro e w2 ⟨rfl, hb⟩; have HB2 : Hid (Below w.heap.size w w2) := HB1.out.trans (hb.mono HB1.out.size); clear hb))
      | fail)
    go_ret2
    exact ⟨false, _, rfl, fun h => absurd h (by decide), HB2.out⟩
end Go.Proofs.Ytcjkdcbminpjlaa
