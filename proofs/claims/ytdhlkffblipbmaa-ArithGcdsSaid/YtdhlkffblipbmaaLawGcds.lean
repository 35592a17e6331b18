/- ArithGcds answers true for all integers: what it does to the world. -/
import Derived.Test.YtdhlkffblipbmaaGcds
import Derived.Test.YtdhlkffblipbmaaAwake
namespace Go.Proofs.Ytdhlkffblipbmaa
open Go.RowKit

def inX (a b : Int) : Prop := -2147483647 ≤ a ∧ a ≤ 2147483647 ∧ -2147483647 ≤ b ∧ b ≤ 2147483647
def XgR (a b g u v e : Int) : Prop := (inX a b ∧ e = 0 ∧ XgcdIs a b g u v) ∨ (¬ inX a b ∧ e = 2 ∧ g = 0 ∧ u = 0 ∧ v = 0)
theorem XgR.unique {a b g u v e g' u' v' e' : Int} (h : XgR a b g u v e) (k : XgR a b g' u' v' e') : g = g' ∧ u = u' ∧ v = v' ∧ e = e' := by
  rcases h with ⟨h0, rfl, h⟩ | ⟨h0, rfl, rfl, rfl, rfl⟩ <;> rcases k with ⟨k0, rfl, k⟩ | ⟨k0, rfl, rfl, rfl, rfl⟩
  · obtain ⟨h1, h2, h3⟩ := h.unique k
    exact ⟨h1, h2, h3, rfl⟩
  · exact absurd h0 k0
  · exact absurd k0 h0
  · exact ⟨rfl, rfl, rfl, rfl⟩
theorem xg_all (a b : Int) (w : World) (a1 : -9223372036854775808 ≤ a) (a2 : a ≤ 9223372036854775807) (b1 : -9223372036854775808 ≤ b) (b2 : b ≤ 9223372036854775807) :
    Calls Try.prog 16 #[.int .i64 a, .int .i64 b] w fun e w' => ∃ g u v e0 : Int, e = .returned (.tuple #[.int .i64 g, .int .i64 u, .int .i64 v, .int .i64 e0]) ∧ XgR a b g u v e0 ∧ ∃ n, w' = w.drewN n := by
  by_cases h : inX a b
  · obtain ⟨h1, h2, h3, h4⟩ := h
    by_cases hb : b = 0
    · subst hb
      exact (xgcd_zero a w h1 h2).mono fun e w' ⟨g, u, v, he, hx, hn⟩ => ⟨g, u, v, 0, he, .inl ⟨⟨h1, h2, h3, h4⟩, rfl, hx⟩, hn⟩
    · exact (xgcd_any a b w h1 h2 h3 h4 hb).mono fun e w' ⟨g, u, v, he, hx, hn⟩ => ⟨g, u, v, 0, he, .inl ⟨⟨h1, h2, h3, h4⟩, rfl, hx⟩, hn⟩
  · exact (xgcd_no a b w a1 a2 b1 b2 (by unfold inX at h; omega)).mono fun e w' ⟨he, hw⟩ => ⟨0, 0, 0, 2, he, .inr ⟨h, rfl, rfl, rfl, rfl⟩, 0, hw.symm⟩
theorem refXg_all (a b : Int) (w : World) :
    Calls Try.prog 17 #[.int .i64 a, .int .i64 b] w fun e w' => ∃ g u v e0 : Int, e = .returned (.tuple #[.int .i64 g, .int .i64 u, .int .i64 v, .int .i64 e0]) ∧ XgR a b g u v e0 ∧ ∃ n, w' = w.drewN n := by
  by_cases h : inX a b
  · obtain ⟨h1, h2, h3, h4⟩ := h
    by_cases hb : b = 0
    · subst hb
      exact (refXgcd_zero a w h1 h2).mono fun e w' ⟨g, u, v, he, hx, hn⟩ => ⟨g, u, v, 0, he, .inl ⟨⟨h1, h2, h3, h4⟩, rfl, hx⟩, hn⟩
    · exact (refXgcd_any a b w h1 h2 h3 h4 hb).mono fun e w' ⟨g, u, v, he, hx, hn⟩ => ⟨g, u, v, 0, he, .inl ⟨⟨h1, h2, h3, h4⟩, rfl, hx⟩, hn⟩
  · exact (refXgcd_no a b w (by unfold inX at h; omega)).mono fun e w' ⟨he, hw⟩ => ⟨0, 0, 0, 2, he, .inr ⟨h, rfl, rfl, rfl, rfl⟩, 0, hw.symm⟩

set_option maxHeartbeats 800000 in
theorem gcds_walk (a b : Int) (w : World) (a1 : -9223372036854775808 ≤ a) (a2 : a ≤ 9223372036854775807) (b1 : -9223372036854775808 ≤ b) (b2 : b ≤ 9223372036854775807) :
    Calls Try.prog 3 #[.int .i64 a, .int .i64 b] w fun e w' => e = .returned (.bool true) ∧ Below w.heap.size w w' := by
  have HA := Lib.hid (fun W => xg_all a b W a1 a2 b1 b2)
  have HR := Lib.hid (fun W => refXg_all a b W)
  have HG := Lib.hid (fun W => gcd_any a b W a1 a2 b1 b2)
  have HQ := Lib.hid (fun W => refGcd_any a b W a1 a2 b1 b2)
  clear a1 a2 b1 b2
  go_enter Try.func3, Try.ntmps3
  go_wp2_with (first
    | (go_at_call 15; ((with_reducible refine (awake_any _).mono ?_); rintro e w1 ⟨rfl, hb1⟩; have HB := Lib.hid hb1; clear hb1))
    | (go_at_call 16; ((with_reducible refine (HA.out _).mono ?_); rintro e w2 ⟨g, u, v, e0, rfl, hx, n2, rfl⟩; have HX := Lib.hid hx; clear hx))
    | (go_at_call 17; ((with_reducible refine (HR.out _).mono ?_); rintro e w3 ⟨g', u', v', e', rfl, hx, n3, rfl⟩; obtain ⟨rfl, rfl, rfl, rfl⟩ := HX.out.unique hx; clear hx))
    | (go_at_call 18; ((with_reducible refine (HG.out _).mono ?_); rintro e w4 ⟨rfl, n4, rfl⟩))
    | (go_at_call 19; ((with_reducible refine (HQ.out _).mono ?_); rintro e w5 ⟨rfl, rfl⟩)))
  go_ret
  exact ⟨by simp, by repeat (first | exact HB.out | refine below_drewN ?_ _)⟩
end Go.Proofs.Ytdhlkffblipbmaa
