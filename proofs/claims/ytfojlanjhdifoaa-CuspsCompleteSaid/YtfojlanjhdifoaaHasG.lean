/- The code's Has for Gamma0. -/
import Derived.Test.YtfojlanjhdifoaaMtL
import Derived.Test.YtfojlanjhdifoaaBoxL
namespace Go.Proofs.Ytfojlanjhdifoaa
open Go.RowKit

set_option maxHeartbeats 800000 in
set_option maxRecDepth 1000000 in
theorem checkG (n : Int) (w : World) (n1 : 1 ≤ n) (n2 : n ≤ 120) : Calls Try.prog 21 #[.agg #[.int .i64 1, .int .i64 n]] w fun e w' => e = .returned (.int .i64 0) ∧ Below w.heap.size w w' := by
  have d1 : decide (n < 1) = false := by simp; omega
  have d2 : decide (120 < n) = false := by simp; omega
  go_enter Try.func21, Try.ntmps21
  go_wp2
  go_ret
  exact ⟨rfl, below1 _ _⟩
set_option maxHeartbeats 3200000 in
set_option maxRecDepth 1000000 in
theorem hasG (n a b c d : Int) (w : World) (n1 : 1 ≤ n) (n2 : n ≤ 120) (hf : fitB a b c d = true) (hd : a * d - b * c = 1) (hc : c.tmod n = 0) : Calls Try.prog 11 #[.agg #[.int .i64 1, .int .i64 n], .agg #[.int .i64 a, .int .i64 b, .int .i64 c, .int .i64 d]] w fun e w' => e = .returned (.tuple #[.bool true, .int .i64 0]) ∧ Below w.heap.size w w' := by
  have HC := Lib.hid (fun W => checkG n W n1 n2)
  have HK := Lib.hid (fun W => check_any a b c d W)
  have hk : chkI a b c d = 0 := by
    rcases chk_cases a b c d with ⟨h, _⟩ | ⟨_, _, k⟩ | ⟨_, h1, _⟩
    · rw [hf] at h; cases h
    · exact k
    · exact absurd hd h1
  rw [hk] at HK
  obtain ⟨⟨a1, a2⟩, ⟨b1, b2⟩, ⟨c1, c2⟩, ⟨e1, e2⟩⟩ := fitB_iff.1 hf
  clear hf hd hk
  have hn0 : ¬ n = 0 := by omega
  by_cases h1 : (a - 1).tmod n = 0 <;> by_cases h2 : (d - 1).tmod n = 0 <;> by_cases h3 : b.tmod n = 0
  all_goals
    go_enter Try.func11, Try.ntmps11
    go_upto_region 7 with (first
      | (go_at_call 21; ((with_reducible refine (HC.out _).mono ?_); rintro e w1 ⟨rfl, hb⟩; have T : Hid (w1.heap[w.heap.size]? = some (.cells #[.int .i64 1, .int .i64 n] 36 (0, 0))) := block_below (block_alloc (heap_alloc_new w _) _) hb; have U : Hid (w1.heap[w.heap.size + 1]? = some (.cells #[.int .i64 a, .int .i64 b, .int .i64 c, .int .i64 d] 39 (0, 0))) := block_below (by have := heap_alloc_new (w.alloc (.cells #[.int .i64 1, .int .i64 n] 36)) (.cells #[.int .i64 a, .int .i64 b, .int .i64 c, .int .i64 d] 39); simpa using this) hb; have HB1 : Hid (Below w.heap.size w w1) := (below2 w _ _).trans (hb.mono (by simp; omega)); obtain ⟨⟨u1, u2, u3, u4⟩, _⟩ := four_of_block U.out; obtain ⟨⟨t1, t2⟩, _⟩ := two_of_block T.out; clear hb))
      | (go_at_call 27; ((with_reducible refine (HK.out _).mono ?_); rintro e w2 ⟨rfl, hb⟩; have T2 := Lib.hid (block_below T.out hb); have U2 := Lib.hid (block_below U.out hb); have HB2 : Hid (Below w.heap.size w w2) := HB1.out.trans (hb.mono HB1.out.size); clear u1 u2 u3 u4 t1 t2; obtain ⟨⟨u1, u2, u3, u4⟩, _⟩ := four_of_block U2.out; obtain ⟨⟨t1, t2⟩, _⟩ := two_of_block T2.out; clear hb))
      | fail)
    go_region
    go_wp2
    go_ret2
    exact ⟨rfl, HB2.out.drew⟩
end Go.Proofs.Ytfojlanjhdifoaa
