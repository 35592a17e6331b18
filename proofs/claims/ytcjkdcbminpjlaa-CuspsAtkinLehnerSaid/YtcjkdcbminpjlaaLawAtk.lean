/- CuspsAtkinLehner answers true for all integers and all matrices. -/
import Derived.Test.YtcjkdcbminpjlaaAwakeL
import Derived.Test.YtcjkdcbminpjlaaAtkN
import Derived.Test.YtcjkdcbminpjlaaHasL
namespace Go.Proofs.Ytcjkdcbminpjlaa
open Go.RowKit

theorem p121 (u v : Int) (a1 : -1 ≤ u) (a2 : u ≤ 120) (b1 : -1 ≤ v) (b2 : v ≤ 120) : -14641 ≤ u * v ∧ u * v ≤ 14641 := by
  have := Int.natAbs_mul u v
  have h1 : u.natAbs ≤ 121 := by omega
  have h2 : v.natAbs ≤ 121 := by omega
  have h3 := Nat.mul_le_mul h1 h2
  omega
set_option maxHeartbeats 6400000 in
set_option maxRecDepth 1000000 in
theorem atkinLehner_walk (n q a b c d : Int) (w : World) :
    Calls Try.prog 5 #[.int .i64 n, .int .i64 q, .agg #[.int .i64 a, .int .i64 b, .int .i64 c, .int .i64 d]] w fun e w' => e = .returned (.bool true) ∧ Below w.heap.size w w' := by
  go_enter Try.func5, Try.ntmps5
  go_upto_region 5 with (first
    | (go_at_call 6; ((with_reducible refine (awake_any _).mono ?_); rintro e w1 ⟨rfl, hb⟩; have T5 : Hid (Four w1 w.heap.size a b c d) := (Four.at w rfl a b c d).below hb; have HB1 : Hid (Below w.heap.size w w1) := (below1 w _).trans (hb.mono (by simp)); clear hb))
    | (go_at_call 11; ((with_reducible refine (atkin_any n q _).mono ?_); rintro e w2 ⟨X, B, C, D, K, hE, rfl, hb⟩; have HE := Lib.hid hE; have U5 := Lib.hid (T5.out.below hb); have HB2 := Lib.hid (bel0 HB1.out hb); clear hb hE))
    | (go_at_call 12; ((with_reducible refine (ratkin_at _ HE.out).mono ?_); rintro e w3 ⟨rfl, hb⟩; have V5 := Lib.hid ((U5.out.alloc _).below hb); have V7 : Hid (Four w3 w2.heap.size X B C D) := (Four.at w2 rfl X B C D).below hb; have HB3 := Lib.hid (bel1 HB2.out hb); have hz3 : w2.heap.size < w3.heap.size := V7.out.lt; have hz5 : w.heap.size < w3.heap.size := V5.out.lt; clear hb))
    | fail)
  have hc7 := V7.out.cells
  obtain ⟨k1, k2, k3, k4⟩ := hc7
  by_cases hK : K = 0
  case neg =>
    clear HE
    go_wp2
    go_ret
    exact ⟨rfl, HB3.out.alloc (by omega) _⟩
  subst hK
  have hA : n = C ∧ q = D ∧ AF n q X B := by
    have h0 := HE.out
    generalize hz : (0 : Int) = z at h0
    cases h0 with
    | lev h => exact absurd hz (by decide)
    | div h1 h2 h => exact absurd hz (by decide)
    | cop h1 h2 h3 h4 h => exact absurd hz (by decide)
    | yes x h1 h2 h3 h4 h5 h6 => exact ⟨rfl, rfl, AF.of h1 h2 h3 h4 h6⟩
  obtain ⟨rfl, rfl, hAF⟩ := hA
  have HA := Lib.hid hAF
  clear hAF HE
  have n1 := HA.out.n1
  have n2 := HA.out.n2
  have q1 := HA.out.q1
  have q2 := HA.out.q2
  have x0 := HA.out.x0
  have x2 := HA.out.x2
  have b0 := HA.out.b0
  have b2 := HA.out.b2
  obtain ⟨p1, p2⟩ := p121 X q (by omega) x2 (by omega) q2
  obtain ⟨p3, p4⟩ := p121 B n b0 b2 (by omega) n2
  obtain ⟨p5, p6⟩ := p121 q n (by omega) q2 (by omega) n2
  have hdet := HA.out.det
  have hqn : 1 ≤ q * n := by have := Int.mul_le_mul q1 n1 (by omega) (by omega); omega
  obtain ⟨S1, S2, S3, S4, HM, r1, r2, r3, r4⟩ : ∃ S1 S2 S3 S4 : Int, Hid (mulE ⟨X, B, n, q⟩ ⟨X, B, n, q⟩ = (⟨S1, S2, S3, S4⟩, 0)) ∧ S1.tmod q = 0 ∧ S2.tmod q = 0 ∧ S3.tmod (q * n) = 0 ∧ S4.tmod q = 0 :=
    ⟨_, _, _, _, mulE_ok HA.out.f1 HA.out.f1 HA.out.f2, HA.out.s1, HA.out.s2, HA.out.s3, HA.out.s4⟩
  have HMul := Lib.hid (fun W => mul_any X B n q X B n q S1 S2 S3 S4 0 W HM.out)
  have hS7 := V7.out.alloc (.cells #[.int .i64 X, .int .i64 B, .int .i64 n, .int .i64 q] 26)
  have hS5 := V5.out.alloc (.cells #[.int .i64 X, .int .i64 B, .int .i64 n, .int .i64 q] 26)
  have HS7 := Lib.hid hS7
  have HS5 := Lib.hid hS5
  clear hS7 hS5
  go_upto_region 12 with (first
    | (go_at_call 13; ((with_reducible refine (HMul.out _).mono ?_); rintro e w4 ⟨rfl, hb⟩; have X5 := Lib.hid (HS5.out.below hb); have X7 := Lib.hid (HS7.out.below hb); have HB4 := Lib.hid (bel1 HB3.out hb); have hz7 : w2.heap.size < w4.heap.size := X7.out.lt; have hz5' : w.heap.size < w4.heap.size := X5.out.lt; clear hb k1 k2 k3 k4; have hc7 := X7.out.cells; obtain ⟨k1, k2, k3, k4⟩ := hc7))
    | fail)
  obtain ⟨p, r, s, t, k, HM2, HK2⟩ : ∃ p r s t k : Int, Hid (mulE ⟨X, B, n, q⟩ ⟨a, b, c, d⟩ = (⟨p, r, s, t⟩, k)) ∧ Hid (k = 0 → p = X * a + B * c ∧ r = X * b + B * d ∧ s = n * a + q * c ∧ t = n * b + q * d) := by
    rcases mulE_cases ⟨X, B, n, q⟩ ⟨a, b, c, d⟩ with ⟨k, hk, hm⟩ | ⟨_, _, _, hm⟩
    · exact ⟨_, _, _, _, k, hm, fun h => absurd h hk⟩
    · exact ⟨_, _, _, _, _, hm, fun _ => ⟨rfl, rfl, rfl, rfl⟩⟩
  have HMul2 := Lib.hid (fun W => mul_any X B n q a b c d p r s t k W HM2.out)
  have HHas := Lib.hid (fun W => has23 n a b c d W n1 n2)
  have hc5 := X5.out.cells
  obtain ⟨l1, l2, l3, l4⟩ := hc5
  have HX5 := Lib.hid (X5.out.alloc (.cells #[.int .i64 S1, .int .i64 S2, .int .i64 S3, .int .i64 S4] 26))
  have HX7 := Lib.hid (X7.out.alloc (.cells #[.int .i64 S1, .int .i64 S2, .int .i64 S3, .int .i64 S4] 26))
  go_upto_region 14 with (first
    | (go_at_call 13; ((with_reducible refine (HMul2.out _).mono ?_); rintro e w5 ⟨rfl, hb⟩; have Y5 := Lib.hid (HX5.out.below hb); have Y7 := Lib.hid (HX7.out.below hb); have HB5 := Lib.hid (bel1 HB4.out hb); have hz8 : w2.heap.size < w5.heap.size := Y7.out.lt; have hz9 : w.heap.size < w5.heap.size := Y5.out.lt; clear hb k1 k2 k3 k4 l1 l2 l3 l4; have hc5 := Y5.out.cells; obtain ⟨l1, l2, l3, l4⟩ := hc5))
    | (go_at_call 14; ((with_reducible refine (HHas.out _).mono ?_); rintro e w6 ⟨tb, k2, rfl, hd, hb⟩; have HD := Lib.hid hd; have Z7 := Lib.hid ((Y7.out.alloc _).below hb); have Z13 : Hid (Four w6 w5.heap.size p r s t) := (Four.at w5 rfl p r s t).below hb; have HB6 := Lib.hid (bel1 HB5.out hb); clear hb hd l1 l2 l3 l4))
    | fail)
  have hc7 := Z7.out.cells
  obtain ⟨k1, k2', k3, k4⟩ := hc7
  have hc13 := Z13.out.cells
  obtain ⟨l1, l2, l3, l4⟩ := hc13
  by_cases g1 : k2 = 0
  case neg =>
    go_wp2
    go_ret
    exact ⟨rfl, HB6.out⟩
  subst g1
  cases tb with
  | false =>
    go_wp2
    go_ret
    exact ⟨rfl, HB6.out⟩
  | true =>
    by_cases g2 : k = 0
    case neg =>
      go_wp2
      go_ret
      exact ⟨rfl, HB6.out⟩
    subst g2
    obtain ⟨Y1, Y2, Y3, Y4, k5, HM3, hk5⟩ : ∃ Y1 Y2 Y3 Y4 k5 : Int, Hid (mulE ⟨p, r, s, t⟩ ⟨q, -B, -n, X⟩ = (⟨Y1, Y2, Y3, Y4⟩, k5)) ∧ (¬ k5 = 0 ∨ (k5 = 0 ∧ Y1.tmod q = 0 ∧ Y2.tmod q = 0 ∧ Y3.tmod (q * n) = 0 ∧ Y4.tmod q = 0)) := by
      rcases mulE_cases ⟨p, r, s, t⟩ ⟨q, -B, -n, X⟩ with ⟨k, hk, hm⟩ | ⟨_, _, _, hm⟩
      · exact ⟨_, _, _, _, k, hm, .inl hk⟩
      · obtain ⟨e1, e2, e3, e4⟩ := HK2.out rfl
        obtain ⟨f1, f2, f3, f4⟩ := HA.out.cj a b c d (HD.out rfl rfl)
        rw [← e1, ← e2] at f1 f2
        rw [← e3, ← e4] at f3 f4
        exact ⟨_, _, _, _, _, hm, .inr ⟨rfl, f1, f2, f3, f4⟩⟩
    have HMul3 := Lib.hid (fun W => mul_any p r s t q (-B) (-n) X Y1 Y2 Y3 Y4 k5 W HM3.out)
    clear hdet r1 r2 r3 r4
    have m1 : 1 ≤ q * n := hqn
    go_upto_region 17 with (first
      | (go_at_call 13; ((with_reducible refine (HMul3.out _).mono ?_); rintro e w7 ⟨rfl, hb⟩; have HB7 := Lib.hid (bel0 HB6.out hb); have hz10 := Lib.hid hb.size; clear hb k1 k2' k3 k4 l1 l2 l3 l4))
      | fail)
    have hsz7 := HB7.out.size
    rcases hk5 with h5 | ⟨rfl, y1, y2, y3, y4⟩
    · go_wp2
      go_ret
      exact ⟨rfl, HB7.out.alloc hsz7 _⟩
    · go_wp2
      go_ret
      exact ⟨rfl, HB7.out.alloc hsz7 _⟩
end Go.Proofs.Ytcjkdcbminpjlaa
