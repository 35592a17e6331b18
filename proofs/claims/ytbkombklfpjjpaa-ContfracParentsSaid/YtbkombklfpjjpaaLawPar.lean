/- ContfracParents answers true for all cusps: what it does to the world. -/
import Derived.Test.YtbkombklfpjjpaaLawK
import Derived.Test.YtbkombklfpjjpaaRParL
import Derived.Test.YtbkombklfpjjpaaMedL
import Derived.Test.YtbkombklfpjjpaaLawMed
namespace Go.Proofs.Ytbkombklfpjjpaa
open Go.RowKit

/-- The parents of a cusp have it as their mediant. -/
theorem par_med {p q x y z t : Int} (h : ParE p q x y z t 0) : medE x y z t = (p, q, 0) ∧ y < q ∧ t < q := by
  rcases h with ⟨h1, _, _, _, _, h2⟩ | ⟨_, _, _, _, _, _, h2⟩ | ⟨h1, h2, ⟨d1, d2, d3⟩, rfl, rfl, _⟩
  · exact absurd h2.symm h1
  · omega
  · obtain ⟨e0, e1, k⟩ := cuspI_zero.1 h1
    obtain ⟨p1, p2⟩ := inE_iff.1 e0
    obtain ⟨x1, x2⟩ := ParIs.bd ⟨d1, d2, d3⟩ p1 p2
    have d4 : p * (q - y) - (p - x) * q = -1 := by rw [Int.mul_sub, Int.sub_mul]; omega
    have hz : -1073741824 ≤ p - x ∧ p - x ≤ 1073741824 := by
      have a1 := Int.mul_le_mul_of_nonneg_right p1 (show 0 ≤ q - y by omega)
      have a2 := Int.mul_le_mul_of_nonneg_right p2 (show 0 ≤ q - y by omega)
      constructor
      · rcases Int.lt_or_le (p - x) (-1073741824) with c | c
        · have := Int.mul_le_mul_of_nonneg_right (show p - x ≤ -1073741825 by omega) (show 0 ≤ q by omega); omega
        · exact c
      · rcases Int.lt_or_le 1073741824 (p - x) with c | c
        · have := Int.mul_le_mul_of_nonneg_right (show 1073741825 ≤ p - x by omega) (show 0 ≤ q by omega); omega
        · exact c
    have c1 : Int.gcd x y = 1 := by
      rw [Int.gcd_comm]
      exact cop_of_det (x := y) (y := x) (a := q) (b := p) (by rw [Int.mul_comm y p, Int.mul_comm q x]; exact d1)
    have c2 : Int.gcd (p - x) (q - y) = 1 := cop_of_det (x := p - x) (y := q - y) (a := p) (b := q) (by rw [show (p - x) * q - p * (q - y) = -(p * (q - y) - (p - x) * q) by omega, d4]; rfl)
    have g1 : cuspI x y = 0 := cuspI_zero.2 ⟨inE_yes x1 x2, by omega, ⟨c1, by omega, fun h => by omega⟩⟩
    have g2 : cuspI (p - x) (q - y) = 0 := cuspI_zero.2 ⟨inE_yes hz.1 hz.2, by omega, ⟨c2, by omega, fun h => by omega⟩⟩
    have hm : medP x y = x := if_neg (by omega)
    have hb : bothI x y (p - x) (q - y) = 0 := by rw [bothI_good g1]; exact g2
    have e3 : x + (p - x) = p := by omega
    have e4 : y + (q - y) = q := by omega
    have hd : (p - x) * y - medP x y * (q - y) = 1 := by rw [hm, Int.sub_mul, Int.mul_sub]; omega
    refine ⟨?_, by omega, by omega⟩
    have := med_4 hb hd (by rw [hm, e3, e4, e0, inE_yes (n := q) (by omega) e1]; simp)
    rw [this, hm, e3, e4]
theorem parE_ex (p q : Int) : ∃ x y z t k, ParE p q x y z t k := by
  by_cases h : cuspI p q = 0
  · rcases Int.lt_or_le q 2 with h2 | h2
    · exact ⟨0, 0, 0, 0, 3, .inr (.inl ⟨h, h2, rfl, rfl, rfl, rfl, rfl⟩)⟩
    · obtain ⟨C, L, a, b, _, _, _, _, c5, b1, b2, _, _⟩ := par_conv h h2
      rcases c5 with c5 | c5
      · exact ⟨p - a, q - b, _, _, 0, .inr (.inr ⟨h, h2, ⟨by rw [Int.mul_sub, Int.sub_mul]; omega, by omega, by omega⟩, rfl, rfl, rfl⟩)⟩
      · exact ⟨a, b, _, _, 0, .inr (.inr ⟨h, h2, ⟨by omega, by omega, by omega⟩, rfl, rfl, rfl⟩)⟩
  · exact ⟨0, 0, 0, 0, _, .inl ⟨h, rfl, rfl, rfl, rfl, rfl⟩⟩
theorem par_at {p q x y z t k : Int} (w : World) (h : ParE p q x y z t k) :
    Calls Try.prog 33 #[.agg #[.int .i64 p, .int .i64 q]] w fun e w' => e = .returned (.tuple #[.agg #[.int .i64 x, .int .i64 y], .agg #[.int .i64 z, .int .i64 t], .int .i64 k]) ∧ Below w.heap.size w w' := by
  refine (parents_any p q w).mono ?_
  rintro e w' ⟨x', y', z', t', k', hp, he, hb⟩
  obtain ⟨rfl, rfl, rfl, rfl, rfl⟩ := h.unique hp
  exact ⟨he, hb⟩
theorem rpar_at {p q x y z t k : Int} (w : World) (h : ParE p q x y z t k) :
    Calls Try.prog 34 #[.agg #[.int .i64 p, .int .i64 q]] w fun e w' => e = .returned (.tuple #[.agg #[.int .i64 x, .int .i64 y], .agg #[.int .i64 z, .int .i64 t], .int .i64 k]) ∧ Below w.heap.size w w' := by
  refine (rparents_any p q w).mono ?_
  rintro e w' ⟨x', y', z', t', k', hp, he, hb⟩
  obtain ⟨rfl, rfl, rfl, rfl, rfl⟩ := h.unique hp
  exact ⟨he, hb⟩
set_option maxHeartbeats 3200000 in
set_option maxRecDepth 1000000 in
theorem parents_walk (p q : Int) (w : World) :
    Calls Try.prog 11 #[.agg #[.int .i64 p, .int .i64 q]] w fun e w' => e = .returned (.bool true) ∧ Below w.heap.size w w' := by
  obtain ⟨x, y, z, t, k, hr⟩ := parE_ex p q
  have HA := Lib.hid (fun W => par_at W hr)
  have HR := Lib.hid (fun W => rpar_at W hr)
  by_cases hk : k = 0
  · subst hk
    obtain ⟨h1, h2, h3⟩ := par_med hr
    have HM := Lib.hid (fun W => mediant_any x y z t p q 0 W h1)
    clear hr h1
    go_enter Try.func11, Try.ntmps11
    go_wp2_with (first
      | (go_at_call 13; ((with_reducible refine (awake_any _).mono ?_); rintro e w1 ⟨rfl, hb⟩; have P0_w1 := Lib.hid (((Two.at w (g := w.heap.size) rfl p q)).below hb); have HB_w1 : Hid (Below w.heap.size w w1) := bel1 (Below.refl _ _) hb; obtain ⟨p0w10, p0w11⟩ := P0_w1.out.cells; have ltP0_w1 := P0_w1.out.lt; clear hb))
      | (go_at_call 33; ((with_reducible refine (HA.out _).mono ?_); rintro e w2 ⟨rfl, hb⟩; have P0_w2 := Lib.hid ((P0_w1.out).below hb); have HB_w2 : Hid (Below w.heap.size w w2) := bel0 HB_w1.out hb; obtain ⟨p0w20, p0w21⟩ := P0_w2.out.cells; have ltP0_w2 := P0_w2.out.lt; clear hb))
      | (go_at_call 34; ((with_reducible refine (HR.out _).mono ?_); rintro e w3 ⟨rfl, hb⟩; have P0_w3 := Lib.hid ((((P0_w2.out).alloc _).alloc _).below hb); have A_w3 := Lib.hid ((((Two.at w2 (g := w2.heap.size) rfl x y)).alloc _).below hb); have B_w3 := Lib.hid (((Two.at ((w2).alloc _) (g := w2.heap.size + 1) (by simp) z t)).below hb); have HB_w3 : Hid (Below w.heap.size w w3) := bel2 HB_w2.out hb; obtain ⟨p0w30, p0w31⟩ := P0_w3.out.cells; have ltP0_w3 := P0_w3.out.lt; obtain ⟨aw30, aw31⟩ := A_w3.out.cells; have ltA_w3 := A_w3.out.lt; obtain ⟨bw30, bw31⟩ := B_w3.out.cells; have ltB_w3 := B_w3.out.lt; clear hb))
      | (go_at_call 31; ((with_reducible refine (HM.out _).mono ?_); rintro e w4 ⟨rfl, hb⟩; have P0_w4 := Lib.hid ((((P0_w3.out).alloc _).alloc _).below hb); have A_w4 := Lib.hid ((((A_w3.out).alloc _).alloc _).below hb); have B_w4 := Lib.hid ((((B_w3.out).alloc _).alloc _).below hb); have X_w4 := Lib.hid ((((Two.at w3 (g := w3.heap.size) rfl x y)).alloc _).below hb); have Y_w4 := Lib.hid (((Two.at ((w3).alloc _) (g := w3.heap.size + 1) (by simp) z t)).below hb); have HB_w4 : Hid (Below w.heap.size w w4) := bel2 HB_w3.out hb; obtain ⟨p0w40, p0w41⟩ := P0_w4.out.cells; have ltP0_w4 := P0_w4.out.lt; obtain ⟨aw40, aw41⟩ := A_w4.out.cells; have ltA_w4 := A_w4.out.lt; obtain ⟨bw40, bw41⟩ := B_w4.out.cells; have ltB_w4 := B_w4.out.lt; obtain ⟨xw40, xw41⟩ := X_w4.out.cells; have ltX_w4 := X_w4.out.lt; obtain ⟨yw40, yw41⟩ := Y_w4.out.cells; have ltY_w4 := Y_w4.out.lt; clear hb))
      | fail)
    go_ret
    exact ⟨rfl, bel0 HB_w4.out (below1 _ _)⟩
  · have hk1 : (k != 0) = true := by simpa using hk
    clear hr hk
    go_enter Try.func11, Try.ntmps11
    go_wp2_with (first
      | (go_at_call 13; ((with_reducible refine (awake_any _).mono ?_); rintro e w1 ⟨rfl, hb⟩; have P0_w1 := Lib.hid (((Two.at w (g := w.heap.size) rfl p q)).below hb); have HB_w1 : Hid (Below w.heap.size w w1) := bel1 (Below.refl _ _) hb; obtain ⟨p0w10, p0w11⟩ := P0_w1.out.cells; have ltP0_w1 := P0_w1.out.lt; clear hb))
      | (go_at_call 33; ((with_reducible refine (HA.out _).mono ?_); rintro e w2 ⟨rfl, hb⟩; have P0_w2 := Lib.hid ((P0_w1.out).below hb); have HB_w2 : Hid (Below w.heap.size w w2) := bel0 HB_w1.out hb; obtain ⟨p0w20, p0w21⟩ := P0_w2.out.cells; have ltP0_w2 := P0_w2.out.lt; clear hb))
      | (go_at_call 34; ((with_reducible refine (HR.out _).mono ?_); rintro e w3 ⟨rfl, hb⟩; have P0_w3 := Lib.hid ((((P0_w2.out).alloc _).alloc _).below hb); have A_w3 := Lib.hid ((((Two.at w2 (g := w2.heap.size) rfl x y)).alloc _).below hb); have B_w3 := Lib.hid (((Two.at ((w2).alloc _) (g := w2.heap.size + 1) (by simp) z t)).below hb); have HB_w3 : Hid (Below w.heap.size w w3) := bel2 HB_w2.out hb; obtain ⟨p0w30, p0w31⟩ := P0_w3.out.cells; have ltP0_w3 := P0_w3.out.lt; obtain ⟨aw30, aw31⟩ := A_w3.out.cells; have ltA_w3 := A_w3.out.lt; obtain ⟨bw30, bw31⟩ := B_w3.out.cells; have ltB_w3 := B_w3.out.lt; clear hb))
      | fail)
    go_ret
    exact ⟨rfl, bel0 HB_w3.out (below2 _ _ _)⟩
end Go.Proofs.Ytbkombklfpjjpaa
