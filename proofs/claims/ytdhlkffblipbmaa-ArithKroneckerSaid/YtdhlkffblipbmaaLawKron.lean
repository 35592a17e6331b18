/- ArithKronecker answers true for all integers: what it does to the world. -/
import Derived.Test.YtdhlkffblipbmaaRefKronC
import Derived.Test.YtdhlkffblipbmaaAwake
namespace Go.Proofs.Ytdhlkffblipbmaa
open Go.RowKit

set_option maxHeartbeats 1600000 in
theorem kronecker_walk (a n : Int) (w : World) (a1 : -9223372036854775808 ≤ a) (a2 : a ≤ 9223372036854775807) (n1 : -9223372036854775808 ≤ n) (n2 : n ≤ 9223372036854775807) :
    Calls Try.prog 9 #[.int .i64 a, .int .i64 n] w fun e w' => e = .returned (.bool true) ∧ Below w.heap.size w w' := by
  have HK := Lib.hid (fun W => kron_any a n W a1 a2 n1 n2)
  have HC := kron_cases a n
  obtain ⟨hc1, hc2⟩ := HC
  by_cases hr : -2147483647 ≤ n ∧ n ≤ 2147483647
  · obtain ⟨r1, r2⟩ := hr
    have HRK := Lib.hid (fun W => refKron_any a n W r1 r2)
    go_enter Try.func9, Try.ntmps9
    go_wp2_with (first
      | (go_at_call 15; ((with_reducible refine (awake_any _).mono ?_); rintro e w1 ⟨rfl, hb1⟩; have HB := Lib.hid hb1; have hs1 := hb1.size; clear hb1))
      | (go_at_call 42; ((with_reducible refine (HK.out _).mono ?_); rintro e w' ⟨rfl, rfl⟩))
      | (go_at_call 43; ((with_reducible refine (HRK.out _).mono ?_); rintro e w2 ⟨rfl, hb2⟩; have HB2 := Lib.hid (HB.out.trans (hb2.mono hs1)); clear hb2)))
    go_ret
    exact ⟨ret_bool' (by simp), HB2.out⟩
  · have HR := Lib.hid hr
    clear hr
    rcases Int.lt_or_le 2147483647 n with h | h
    · go_enter Try.func9, Try.ntmps9
      go_wp2_with (first
        | (go_at_call 15; ((with_reducible refine (awake_any _).mono ?_); rintro e w1 ⟨rfl, hb1⟩; have HB := Lib.hid hb1; clear hb1))
        | (go_at_call 42; ((with_reducible refine (HK.out _).mono ?_); rintro e w' ⟨rfl, rfl⟩)))
      go_ret
      exact ⟨rfl, HB.out⟩
    · have h2 : n < -2147483647 := by have := HR.out; omega
      go_enter Try.func9, Try.ntmps9
      go_wp2_with (first
        | (go_at_call 15; ((with_reducible refine (awake_any _).mono ?_); rintro e w1 ⟨rfl, hb1⟩; have HB := Lib.hid hb1; clear hb1))
        | (go_at_call 42; ((with_reducible refine (HK.out _).mono ?_); rintro e w' ⟨rfl, rfl⟩)))
      go_ret
      exact ⟨rfl, HB.out⟩
end Go.Proofs.Ytdhlkffblipbmaa
