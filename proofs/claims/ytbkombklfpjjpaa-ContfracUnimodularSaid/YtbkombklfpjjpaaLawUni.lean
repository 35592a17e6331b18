/- ContfracUnimodular answers true for all pairs of cusps: what it does to the world. -/
import Derived.Test.YtbkombklfpjjpaaLawK
import Derived.Test.YtbkombklfpjjpaaUniL
import Derived.Test.YtbkombklfpjjpaaRUniL
import Derived.Test.YtbkombklfpjjpaaApplyL
import Derived.Test.YtbkombklfpjjpaaDetL
namespace Go.Proofs.Ytbkombklfpjjpaa
open Go.RowKit

theorem uni_ok {a b c d x y z t : Int} (h : uniE a b c d = (⟨x, y, z, t⟩, 0)) : appE x y z t 0 1 = (a, b, 0) ∧ appE x y z t 1 0 = (c, d, 0) ∧ chkI x y z t = 0 := by
  by_cases h0 : bothI a b c d = 0
  · obtain ⟨g1, g2⟩ := both_ok h0
    obtain ⟨a0, b2, a1⟩ := cuspI_zero.1 g1
    obtain ⟨c0, d2, c1⟩ := cuspI_zero.1 g2
    obtain ⟨a3, a4⟩ := inE_iff.1 a0
    obtain ⟨c3, c4⟩ := inE_iff.1 c0
    have b1 := a1.pos
    have d1 := c1.pos
    have b0 : inE b = true := inE_yes (by omega) b2
    have d0 : inE d = true := inE_yes (by omega) d2
    have l1 : low a b = (a, b) := low_self a1
    have l2 : low c d = (c, d) := low_self c1
    have l3 : low (-a) (-b) = (a, b) := low_of (s := -1) (by decide) (by omega) (by omega) a1
    by_cases k1 : c * b - a * d = 1
    · rw [uni_2 h0 k1] at h
      cases h
      have hf : fitB c a d b = true := fitB_iff.2 ⟨⟨c3, c4⟩, ⟨a3, a4⟩, ⟨by omega, d2⟩, ⟨by omega, b2⟩⟩
      refine ⟨appE_5 hf (by omega) (by decide +kernel) ?_ a0 b0, appE_5 hf (by omega) (by decide +kernel) ?_ c0 d0, ?_⟩
      · rw [Int.mul_zero, Int.mul_zero, Int.mul_one, Int.mul_one, Int.zero_add, Int.zero_add]; exact l1
      · rw [Int.mul_zero, Int.mul_zero, Int.mul_one, Int.mul_one, Int.add_zero, Int.add_zero]; exact l2
      · unfold chkI; rw [if_neg (by rw [hf]; decide), if_pos k1]
    · by_cases k2 : c * b - a * d = -1
      · rw [uni_3 h0 k2] at h
        cases h
        have hf : fitB c (-a) d (-b) = true := fitB_iff.2 ⟨⟨c3, c4⟩, ⟨by omega, by omega⟩, ⟨by omega, d2⟩, ⟨by omega, by omega⟩⟩
        have hd : c * -b - -a * d = 1 := by rw [Int.mul_neg, Int.neg_mul]; omega
        refine ⟨appE_5 hf (by omega) (by decide +kernel) ?_ a0 b0, appE_5 hf (by omega) (by decide +kernel) ?_ c0 d0, ?_⟩
        · rw [Int.mul_zero, Int.mul_zero, Int.mul_one, Int.mul_one, Int.zero_add, Int.zero_add]; exact l3
        · rw [Int.mul_zero, Int.mul_zero, Int.mul_one, Int.mul_one, Int.add_zero, Int.add_zero]; exact l2
        · unfold chkI; rw [if_neg (by rw [hf]; decide), if_pos hd]
      · rw [uni_4 h0 k1 k2] at h
        simp at h
  · rw [uni_1 h0] at h
    simp only [Prod.mk.injEq] at h
    exact absurd h.2 h0
set_option maxHeartbeats 3200000 in
set_option maxRecDepth 1000000 in
theorem unimodular_walk (a b c d : Int) (w : World) :
    Calls Try.prog 9 #[.agg #[.int .i64 a, .int .i64 b], .agg #[.int .i64 c, .int .i64 d]] w fun e w' => e = .returned (.bool true) ∧ Below w.heap.size w w' := by
  obtain ⟨⟨x, y, z, t⟩, k, hr⟩ : ∃ m k, uniE a b c d = (m, k) := ⟨_, _, rfl⟩
  have HA := Lib.hid (fun W => unimodular_any a b c d x y z t k W hr)
  have HR := Lib.hid (fun W => runimodular_any a b c d x y z t k W hr)
  by_cases hk : k = 0
  · subst hk
    obtain ⟨h1, h2, h3⟩ := uni_ok hr
    have HX := Lib.hid (fun W => apply_any x y z t 0 1 a b 0 W h1)
    have HY := Lib.hid (fun W => apply_any x y z t 1 0 c d 0 W h2)
    have HK := Lib.hid (fun W => check_any x y z t W)
    rw [h3] at HK
    clear h1 h2 h3 hr
    go_enter Try.func9, Try.ntmps9
    go_wp2_with (first
      | (go_at_call 13; ((with_reducible refine (awake_any _).mono ?_); rintro e w1 ⟨rfl, hb⟩; have P0_w1 := Lib.hid ((((Two.at w (g := w.heap.size) rfl a b)).alloc _).below hb); have P1_w1 := Lib.hid (((Two.at ((w).alloc _) (g := w.heap.size + 1) (by simp) c d)).below hb); have HB_w1 : Hid (Below w.heap.size w w1) := bel2 (Below.refl _ _) hb; obtain ⟨p0w10, p0w11⟩ := P0_w1.out.cells; have ltP0_w1 := P0_w1.out.lt; obtain ⟨p1w10, p1w11⟩ := P1_w1.out.cells; have ltP1_w1 := P1_w1.out.lt; clear hb))
      | (go_at_call 27; ((with_reducible refine (HA.out _).mono ?_); rintro e w2 ⟨rfl, hb⟩; have P0_w2 := Lib.hid ((P0_w1.out).below hb); have P1_w2 := Lib.hid ((P1_w1.out).below hb); have HB_w2 : Hid (Below w.heap.size w w2) := bel0 HB_w1.out hb; obtain ⟨p0w20, p0w21⟩ := P0_w2.out.cells; have ltP0_w2 := P0_w2.out.lt; obtain ⟨p1w20, p1w21⟩ := P1_w2.out.cells; have ltP1_w2 := P1_w2.out.lt; clear hb))
      | (go_at_call 28; ((with_reducible refine (HR.out _).mono ?_); rintro e w3 ⟨rfl, hb⟩; have P0_w3 := Lib.hid (((P0_w2.out).alloc _).below hb); have P1_w3 := Lib.hid (((P1_w2.out).alloc _).below hb); have A_w3 := Lib.hid (((Four.at w2 (g := w2.heap.size) rfl x y z t)).below hb); have HB_w3 : Hid (Below w.heap.size w w3) := bel1 HB_w2.out hb; obtain ⟨p0w30, p0w31⟩ := P0_w3.out.cells; have ltP0_w3 := P0_w3.out.lt; obtain ⟨p1w30, p1w31⟩ := P1_w3.out.cells; have ltP1_w3 := P1_w3.out.lt; obtain ⟨aw30, aw31, aw32, aw33⟩ := A_w3.out.cells; have ltA_w3 := A_w3.out.lt; clear hb))
      | (go_at_call 29; ((with_reducible refine (HX.out _).mono ?_); rintro e w4 ⟨rfl, hb⟩; have P0_w4 := Lib.hid (((P0_w3.out).alloc _).below hb); have P1_w4 := Lib.hid (((P1_w3.out).alloc _).below hb); have A_w4 := Lib.hid (((A_w3.out).alloc _).below hb); have B_w4 := Lib.hid (((Four.at w3 (g := w3.heap.size) rfl x y z t)).below hb); have HB_w4 : Hid (Below w.heap.size w w4) := bel1 HB_w3.out hb; obtain ⟨p0w40, p0w41⟩ := P0_w4.out.cells; have ltP0_w4 := P0_w4.out.lt; obtain ⟨p1w40, p1w41⟩ := P1_w4.out.cells; have ltP1_w4 := P1_w4.out.lt; obtain ⟨aw40, aw41, aw42, aw43⟩ := A_w4.out.cells; have ltA_w4 := A_w4.out.lt; obtain ⟨bw40, bw41, bw42, bw43⟩ := B_w4.out.cells; have ltB_w4 := B_w4.out.lt; clear hb))
      | (go_at_call 29; ((with_reducible refine (HY.out _).mono ?_); rintro e w5 ⟨rfl, hb⟩; have P0_w5 := Lib.hid (((P0_w4.out).alloc _).below hb); have P1_w5 := Lib.hid (((P1_w4.out).alloc _).below hb); have A_w5 := Lib.hid (((A_w4.out).alloc _).below hb); have B_w5 := Lib.hid (((B_w4.out).alloc _).below hb); have X_w5 := Lib.hid (((Two.at w4 (g := w4.heap.size) rfl a b)).below hb); have HB_w5 : Hid (Below w.heap.size w w5) := bel1 HB_w4.out hb; obtain ⟨p0w50, p0w51⟩ := P0_w5.out.cells; have ltP0_w5 := P0_w5.out.lt; obtain ⟨p1w50, p1w51⟩ := P1_w5.out.cells; have ltP1_w5 := P1_w5.out.lt; obtain ⟨aw50, aw51, aw52, aw53⟩ := A_w5.out.cells; have ltA_w5 := A_w5.out.lt; obtain ⟨bw50, bw51, bw52, bw53⟩ := B_w5.out.cells; have ltB_w5 := B_w5.out.lt; obtain ⟨xw50, xw51⟩ := X_w5.out.cells; have ltX_w5 := X_w5.out.lt; clear hb))
      | (go_at_call 30; ((with_reducible refine (HK.out _).mono ?_); rintro e w6 ⟨rfl, hb⟩; have P0_w6 := Lib.hid (((P0_w5.out).alloc _).below hb); have P1_w6 := Lib.hid (((P1_w5.out).alloc _).below hb); have A_w6 := Lib.hid (((A_w5.out).alloc _).below hb); have B_w6 := Lib.hid (((B_w5.out).alloc _).below hb); have X_w6 := Lib.hid (((X_w5.out).alloc _).below hb); have Y_w6 := Lib.hid (((Two.at w5 (g := w5.heap.size) rfl c d)).below hb); have HB_w6 : Hid (Below w.heap.size w w6) := bel1 HB_w5.out hb; obtain ⟨p0w60, p0w61⟩ := P0_w6.out.cells; have ltP0_w6 := P0_w6.out.lt; obtain ⟨p1w60, p1w61⟩ := P1_w6.out.cells; have ltP1_w6 := P1_w6.out.lt; obtain ⟨aw60, aw61, aw62, aw63⟩ := A_w6.out.cells; have ltA_w6 := A_w6.out.lt; obtain ⟨bw60, bw61, bw62, bw63⟩ := B_w6.out.cells; have ltB_w6 := B_w6.out.lt; obtain ⟨xw60, xw61⟩ := X_w6.out.cells; have ltX_w6 := X_w6.out.lt; obtain ⟨yw60, yw61⟩ := Y_w6.out.cells; have ltY_w6 := Y_w6.out.lt; clear hb))
      | fail)
    go_ret
    exact ⟨rfl, bel0 HB_w6.out (Below.refl _ _)⟩
  · have hk1 : (k != 0) = true := by simpa using hk
    clear hr hk
    go_enter Try.func9, Try.ntmps9
    go_wp2_with (first
      | (go_at_call 13; ((with_reducible refine (awake_any _).mono ?_); rintro e w1 ⟨rfl, hb⟩; have P0_w1 := Lib.hid ((((Two.at w (g := w.heap.size) rfl a b)).alloc _).below hb); have P1_w1 := Lib.hid (((Two.at ((w).alloc _) (g := w.heap.size + 1) (by simp) c d)).below hb); have HB_w1 : Hid (Below w.heap.size w w1) := bel2 (Below.refl _ _) hb; obtain ⟨p0w10, p0w11⟩ := P0_w1.out.cells; have ltP0_w1 := P0_w1.out.lt; obtain ⟨p1w10, p1w11⟩ := P1_w1.out.cells; have ltP1_w1 := P1_w1.out.lt; clear hb))
      | (go_at_call 27; ((with_reducible refine (HA.out _).mono ?_); rintro e w2 ⟨rfl, hb⟩; have P0_w2 := Lib.hid ((P0_w1.out).below hb); have P1_w2 := Lib.hid ((P1_w1.out).below hb); have HB_w2 : Hid (Below w.heap.size w w2) := bel0 HB_w1.out hb; obtain ⟨p0w20, p0w21⟩ := P0_w2.out.cells; have ltP0_w2 := P0_w2.out.lt; obtain ⟨p1w20, p1w21⟩ := P1_w2.out.cells; have ltP1_w2 := P1_w2.out.lt; clear hb))
      | (go_at_call 28; ((with_reducible refine (HR.out _).mono ?_); rintro e w3 ⟨rfl, hb⟩; have P0_w3 := Lib.hid (((P0_w2.out).alloc _).below hb); have P1_w3 := Lib.hid (((P1_w2.out).alloc _).below hb); have A_w3 := Lib.hid (((Four.at w2 (g := w2.heap.size) rfl x y z t)).below hb); have HB_w3 : Hid (Below w.heap.size w w3) := bel1 HB_w2.out hb; obtain ⟨p0w30, p0w31⟩ := P0_w3.out.cells; have ltP0_w3 := P0_w3.out.lt; obtain ⟨p1w30, p1w31⟩ := P1_w3.out.cells; have ltP1_w3 := P1_w3.out.lt; obtain ⟨aw30, aw31, aw32, aw33⟩ := A_w3.out.cells; have ltA_w3 := A_w3.out.lt; clear hb))
      | fail)
    go_ret
    exact ⟨rfl, bel0 HB_w3.out (below1 _ _)⟩
end Go.Proofs.Ytbkombklfpjjpaa
