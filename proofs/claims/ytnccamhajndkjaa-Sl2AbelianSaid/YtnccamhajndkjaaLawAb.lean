/- Sl2Abelian answers true for all matrices: what it does to the world. -/
import Derived.Test.YtnccamhajndkjaaRAbelL
import Derived.Test.YtnccamhajndkjaaLawActs
namespace Go.Proofs.Ytnccamhajndkjaa
open Go.RowKit

theorem ablE_zero {m : M} {z : Int} (h : ablE m = (z, 0)) : chkI m.a m.b m.c m.d = 0 ∧ m.det = 1 ∧ m.ok = true ∧ z = abl m := by
  unfold ablE at h
  split at h
  · rename_i hk
    cases h
    rcases chk_cases m.a m.b m.c m.d with ⟨_, k⟩ | ⟨k1, k2, _⟩ | ⟨_, _, k⟩
    · omega
    · exact ⟨hk, k2, k1, rfl⟩
    · omega
  · rename_i hk
    simp only [Prod.mk.injEq] at h
    exact absurd h.2 hk
theorem abl_bd (m : M) : 0 ≤ abl m ∧ abl m < 12 := by unfold abl; omega
theorem abl_prod {x y m : M} {z t : Int} (hx : ablE x = (z, 0)) (hy : ablE y = (t, 0)) (hm : mulE x y = (m, 0)) : ablE m = ((z + t) % 12, 0) := by
  obtain ⟨_, dx, ox, rfl⟩ := ablE_zero hx
  obtain ⟨_, dy, oy, rfl⟩ := ablE_zero hy
  obtain ⟨_, _, rfl, om⟩ := mulE_zero hm
  have hk : chkI (x.mul y).a (x.mul y).b (x.mul y).c (x.mul y).d = 0 := by
    rcases chk_cases (x.mul y).a (x.mul y).b (x.mul y).c (x.mul y).d with ⟨k, _⟩ | ⟨_, _, k⟩ | ⟨_, k, _⟩
    · have h2 : (x.mul y).ok = false := k
      rw [om] at h2; cases h2
    · exact k
    · have h2 := M.det_mul x y
      rw [dx, dy] at h2
      exact absurd h2 k
  unfold ablE
  rw [if_pos hk, abl_mul dx ox dy oy om]

set_option maxHeartbeats 3200000 in
set_option maxRecDepth 1000000 in
theorem abelian_walk (a b c d a' b' c' d' : Int) (w : World) :
    Calls Try.prog 11 #[.agg #[.int .i64 a, .int .i64 b, .int .i64 c, .int .i64 d], .agg #[.int .i64 a', .int .i64 b', .int .i64 c', .int .i64 d']] w fun e w' => e = .returned (.bool true) ∧ Below w.heap.size w w' := by
  obtain ⟨z, k, h1⟩ : ∃ z k, ablE ⟨a, b, c, d⟩ = (z, k) := ⟨_, _, rfl⟩
  have HA := Lib.hid (fun W => abelian_any a b c d z k W h1)
  have HR := Lib.hid (fun W => rabelian_any a b c d z k W h1)
  obtain ⟨t, j, h2⟩ : ∃ z k, ablE ⟨a', b', c', d'⟩ = (z, k) := ⟨_, _, rfl⟩
  have HY := Lib.hid (fun W => abelian_any a' b' c' d' t j W h2)
  obtain ⟨⟨m1, m2, m3, m4⟩, l, h3⟩ : ∃ m l, mulE ⟨a, b, c, d⟩ ⟨a', b', c', d'⟩ = (m, l) := ⟨_, _, rfl⟩
  have HM := Lib.hid (fun W => mul_any _ _ _ _ _ _ _ _ _ _ _ _ _ W h3)
  by_cases hk : k = 0
  · subst hk
    by_cases hj : j = 0
    · subst hj
      by_cases hl : l = 0
      · subst hl
        have h4 := abl_prod h1 h2 h3
        have z1 : 0 ≤ z ∧ z < 12 := by rw [(ablE_zero h1).2.2.2]; exact abl_bd _
        have t1 : 0 ≤ t ∧ t < 12 := by rw [(ablE_zero h2).2.2.2]; exact abl_bd _
        obtain ⟨z2, z3⟩ := z1
        obtain ⟨t2, t3⟩ := t1
        have HZ := Lib.hid (fun W => abelian_any m1 m2 m3 m4 _ 0 W h4)
        clear h1 h2 h3 h4
        go_enter Try.func11, Try.ntmps11
        go_wp2_with (first
          | (go_at_call 12; ((with_reducible refine (awake_any _).mono ?_); rintro e w1 ⟨rfl, hb⟩; have P0_w1 := Lib.hid ((((Four.at w (g := w.heap.size) rfl a b c d)).alloc _).below hb); have P1_w1 := Lib.hid (((Four.at ((w).alloc _) (g := w.heap.size + 1) (by simp) a' b' c' d')).below hb); have HB_w1 : Hid (Below w.heap.size w w1) := bel2 (Below.refl _ _) hb; obtain ⟨p0w10, p0w11, p0w12, p0w13⟩ := P0_w1.out.cells; have ltP0_w1 := P0_w1.out.lt; obtain ⟨p1w10, p1w11, p1w12, p1w13⟩ := P1_w1.out.cells; have ltP1_w1 := P1_w1.out.lt; clear hb))
          | (go_at_call 34; ((with_reducible refine (HA.out _).mono ?_); rintro e w2 ⟨rfl, hb⟩; have P0_w2 := Lib.hid ((P0_w1.out).below hb); have P1_w2 := Lib.hid ((P1_w1.out).below hb); have HB_w2 : Hid (Below w.heap.size w w2) := bel0 HB_w1.out hb; obtain ⟨p0w20, p0w21, p0w22, p0w23⟩ := P0_w2.out.cells; have ltP0_w2 := P0_w2.out.lt; obtain ⟨p1w20, p1w21, p1w22, p1w23⟩ := P1_w2.out.cells; have ltP1_w2 := P1_w2.out.lt; clear hb))
          | (go_at_call 35; ((with_reducible refine (HR.out _).mono ?_); rintro e w3 ⟨rfl, hb⟩; have P0_w3 := Lib.hid ((P0_w2.out).below hb); have P1_w3 := Lib.hid ((P1_w2.out).below hb); have HB_w3 : Hid (Below w.heap.size w w3) := bel0 HB_w2.out hb; obtain ⟨p0w30, p0w31, p0w32, p0w33⟩ := P0_w3.out.cells; have ltP0_w3 := P0_w3.out.lt; obtain ⟨p1w30, p1w31, p1w32, p1w33⟩ := P1_w3.out.cells; have ltP1_w3 := P1_w3.out.lt; clear hb))
          | (go_at_call 34; ((with_reducible refine (HY.out _).mono ?_); rintro e w4 ⟨rfl, hb⟩; have P0_w4 := Lib.hid ((P0_w3.out).below hb); have P1_w4 := Lib.hid ((P1_w3.out).below hb); have HB_w4 : Hid (Below w.heap.size w w4) := bel0 HB_w3.out hb; obtain ⟨p0w40, p0w41, p0w42, p0w43⟩ := P0_w4.out.cells; have ltP0_w4 := P0_w4.out.lt; obtain ⟨p1w40, p1w41, p1w42, p1w43⟩ := P1_w4.out.cells; have ltP1_w4 := P1_w4.out.lt; clear hb))
          | (go_at_call 15; ((with_reducible refine (HM.out _).mono ?_); rintro e w5 ⟨rfl, hb⟩; have P0_w5 := Lib.hid ((P0_w4.out).below hb); have P1_w5 := Lib.hid ((P1_w4.out).below hb); have HB_w5 : Hid (Below w.heap.size w w5) := bel0 HB_w4.out hb; obtain ⟨p0w50, p0w51, p0w52, p0w53⟩ := P0_w5.out.cells; have ltP0_w5 := P0_w5.out.lt; obtain ⟨p1w50, p1w51, p1w52, p1w53⟩ := P1_w5.out.cells; have ltP1_w5 := P1_w5.out.lt; clear hb))
          | (go_at_call 34; ((with_reducible refine (HZ.out _).mono ?_); rintro e w6 ⟨rfl, hb⟩; have P0_w6 := Lib.hid (((P0_w5.out).alloc _).below hb); have P1_w6 := Lib.hid (((P1_w5.out).alloc _).below hb); have MM_w6 := Lib.hid (((Four.at w5 (g := w5.heap.size) rfl m1 m2 m3 m4)).below hb); have HB_w6 : Hid (Below w.heap.size w w6) := bel1 HB_w5.out hb; obtain ⟨p0w60, p0w61, p0w62, p0w63⟩ := P0_w6.out.cells; have ltP0_w6 := P0_w6.out.lt; obtain ⟨p1w60, p1w61, p1w62, p1w63⟩ := P1_w6.out.cells; have ltP1_w6 := P1_w6.out.lt; obtain ⟨mmw60, mmw61, mmw62, mmw63⟩ := MM_w6.out.cells; have ltMM_w6 := MM_w6.out.lt; clear hb))
          | fail)
        go_ret
        exact ⟨rfl, HB_w6.out⟩
      · have hl1 : (l != 0) = true := by simpa using hl
        clear h1 h2 h3 hl
        go_enter Try.func11, Try.ntmps11
        go_wp2_with (first
          | (go_at_call 12; ((with_reducible refine (awake_any _).mono ?_); rintro e w1 ⟨rfl, hb⟩; have P0_w1 := Lib.hid ((((Four.at w (g := w.heap.size) rfl a b c d)).alloc _).below hb); have P1_w1 := Lib.hid (((Four.at ((w).alloc _) (g := w.heap.size + 1) (by simp) a' b' c' d')).below hb); have HB_w1 : Hid (Below w.heap.size w w1) := bel2 (Below.refl _ _) hb; obtain ⟨p0w10, p0w11, p0w12, p0w13⟩ := P0_w1.out.cells; have ltP0_w1 := P0_w1.out.lt; obtain ⟨p1w10, p1w11, p1w12, p1w13⟩ := P1_w1.out.cells; have ltP1_w1 := P1_w1.out.lt; clear hb))
          | (go_at_call 34; ((with_reducible refine (HA.out _).mono ?_); rintro e w2 ⟨rfl, hb⟩; have P0_w2 := Lib.hid ((P0_w1.out).below hb); have P1_w2 := Lib.hid ((P1_w1.out).below hb); have HB_w2 : Hid (Below w.heap.size w w2) := bel0 HB_w1.out hb; obtain ⟨p0w20, p0w21, p0w22, p0w23⟩ := P0_w2.out.cells; have ltP0_w2 := P0_w2.out.lt; obtain ⟨p1w20, p1w21, p1w22, p1w23⟩ := P1_w2.out.cells; have ltP1_w2 := P1_w2.out.lt; clear hb))
          | (go_at_call 35; ((with_reducible refine (HR.out _).mono ?_); rintro e w3 ⟨rfl, hb⟩; have P0_w3 := Lib.hid ((P0_w2.out).below hb); have P1_w3 := Lib.hid ((P1_w2.out).below hb); have HB_w3 : Hid (Below w.heap.size w w3) := bel0 HB_w2.out hb; obtain ⟨p0w30, p0w31, p0w32, p0w33⟩ := P0_w3.out.cells; have ltP0_w3 := P0_w3.out.lt; obtain ⟨p1w30, p1w31, p1w32, p1w33⟩ := P1_w3.out.cells; have ltP1_w3 := P1_w3.out.lt; clear hb))
          | (go_at_call 34; ((with_reducible refine (HY.out _).mono ?_); rintro e w4 ⟨rfl, hb⟩; have P0_w4 := Lib.hid ((P0_w3.out).below hb); have P1_w4 := Lib.hid ((P1_w3.out).below hb); have HB_w4 : Hid (Below w.heap.size w w4) := bel0 HB_w3.out hb; obtain ⟨p0w40, p0w41, p0w42, p0w43⟩ := P0_w4.out.cells; have ltP0_w4 := P0_w4.out.lt; obtain ⟨p1w40, p1w41, p1w42, p1w43⟩ := P1_w4.out.cells; have ltP1_w4 := P1_w4.out.lt; clear hb))
          | (go_at_call 15; ((with_reducible refine (HM.out _).mono ?_); rintro e w5 ⟨rfl, hb⟩; have P0_w5 := Lib.hid ((P0_w4.out).below hb); have P1_w5 := Lib.hid ((P1_w4.out).below hb); have HB_w5 : Hid (Below w.heap.size w w5) := bel0 HB_w4.out hb; obtain ⟨p0w50, p0w51, p0w52, p0w53⟩ := P0_w5.out.cells; have ltP0_w5 := P0_w5.out.lt; obtain ⟨p1w50, p1w51, p1w52, p1w53⟩ := P1_w5.out.cells; have ltP1_w5 := P1_w5.out.lt; clear hb))
          | fail)
        go_ret
        exact ⟨rfl, (HB_w5.out.trans ((below1 _ _).mono HB_w5.out.size))⟩
    · have hj1 : (j != 0) = true := by simpa using hj
      clear h1 h2 h3 hj
      go_enter Try.func11, Try.ntmps11
      go_wp2_with (first
        | (go_at_call 12; ((with_reducible refine (awake_any _).mono ?_); rintro e w1 ⟨rfl, hb⟩; have P0_w1 := Lib.hid ((((Four.at w (g := w.heap.size) rfl a b c d)).alloc _).below hb); have P1_w1 := Lib.hid (((Four.at ((w).alloc _) (g := w.heap.size + 1) (by simp) a' b' c' d')).below hb); have HB_w1 : Hid (Below w.heap.size w w1) := bel2 (Below.refl _ _) hb; obtain ⟨p0w10, p0w11, p0w12, p0w13⟩ := P0_w1.out.cells; have ltP0_w1 := P0_w1.out.lt; obtain ⟨p1w10, p1w11, p1w12, p1w13⟩ := P1_w1.out.cells; have ltP1_w1 := P1_w1.out.lt; clear hb))
        | (go_at_call 34; ((with_reducible refine (HA.out _).mono ?_); rintro e w2 ⟨rfl, hb⟩; have P0_w2 := Lib.hid ((P0_w1.out).below hb); have P1_w2 := Lib.hid ((P1_w1.out).below hb); have HB_w2 : Hid (Below w.heap.size w w2) := bel0 HB_w1.out hb; obtain ⟨p0w20, p0w21, p0w22, p0w23⟩ := P0_w2.out.cells; have ltP0_w2 := P0_w2.out.lt; obtain ⟨p1w20, p1w21, p1w22, p1w23⟩ := P1_w2.out.cells; have ltP1_w2 := P1_w2.out.lt; clear hb))
        | (go_at_call 35; ((with_reducible refine (HR.out _).mono ?_); rintro e w3 ⟨rfl, hb⟩; have P0_w3 := Lib.hid ((P0_w2.out).below hb); have P1_w3 := Lib.hid ((P1_w2.out).below hb); have HB_w3 : Hid (Below w.heap.size w w3) := bel0 HB_w2.out hb; obtain ⟨p0w30, p0w31, p0w32, p0w33⟩ := P0_w3.out.cells; have ltP0_w3 := P0_w3.out.lt; obtain ⟨p1w30, p1w31, p1w32, p1w33⟩ := P1_w3.out.cells; have ltP1_w3 := P1_w3.out.lt; clear hb))
        | (go_at_call 34; ((with_reducible refine (HY.out _).mono ?_); rintro e w4 ⟨rfl, hb⟩; have P0_w4 := Lib.hid ((P0_w3.out).below hb); have P1_w4 := Lib.hid ((P1_w3.out).below hb); have HB_w4 : Hid (Below w.heap.size w w4) := bel0 HB_w3.out hb; obtain ⟨p0w40, p0w41, p0w42, p0w43⟩ := P0_w4.out.cells; have ltP0_w4 := P0_w4.out.lt; obtain ⟨p1w40, p1w41, p1w42, p1w43⟩ := P1_w4.out.cells; have ltP1_w4 := P1_w4.out.lt; clear hb))
        | (go_at_call 15; ((with_reducible refine (HM.out _).mono ?_); rintro e w5 ⟨rfl, hb⟩; have P0_w5 := Lib.hid ((P0_w4.out).below hb); have P1_w5 := Lib.hid ((P1_w4.out).below hb); have HB_w5 : Hid (Below w.heap.size w w5) := bel0 HB_w4.out hb; obtain ⟨p0w50, p0w51, p0w52, p0w53⟩ := P0_w5.out.cells; have ltP0_w5 := P0_w5.out.lt; obtain ⟨p1w50, p1w51, p1w52, p1w53⟩ := P1_w5.out.cells; have ltP1_w5 := P1_w5.out.lt; clear hb))
        | fail)
      go_ret
      exact ⟨rfl, (HB_w5.out.trans ((below1 _ _).mono HB_w5.out.size))⟩
  · have hk1 : (k != 0) = true := by simpa using hk
    clear h1 h2 h3 hk
    go_enter Try.func11, Try.ntmps11
    go_wp2_with (first
      | (go_at_call 12; ((with_reducible refine (awake_any _).mono ?_); rintro e w1 ⟨rfl, hb⟩; have P0_w1 := Lib.hid ((((Four.at w (g := w.heap.size) rfl a b c d)).alloc _).below hb); have P1_w1 := Lib.hid (((Four.at ((w).alloc _) (g := w.heap.size + 1) (by simp) a' b' c' d')).below hb); have HB_w1 : Hid (Below w.heap.size w w1) := bel2 (Below.refl _ _) hb; obtain ⟨p0w10, p0w11, p0w12, p0w13⟩ := P0_w1.out.cells; have ltP0_w1 := P0_w1.out.lt; obtain ⟨p1w10, p1w11, p1w12, p1w13⟩ := P1_w1.out.cells; have ltP1_w1 := P1_w1.out.lt; clear hb))
      | (go_at_call 34; ((with_reducible refine (HA.out _).mono ?_); rintro e w2 ⟨rfl, hb⟩; have P0_w2 := Lib.hid ((P0_w1.out).below hb); have P1_w2 := Lib.hid ((P1_w1.out).below hb); have HB_w2 : Hid (Below w.heap.size w w2) := bel0 HB_w1.out hb; obtain ⟨p0w20, p0w21, p0w22, p0w23⟩ := P0_w2.out.cells; have ltP0_w2 := P0_w2.out.lt; obtain ⟨p1w20, p1w21, p1w22, p1w23⟩ := P1_w2.out.cells; have ltP1_w2 := P1_w2.out.lt; clear hb))
      | (go_at_call 35; ((with_reducible refine (HR.out _).mono ?_); rintro e w3 ⟨rfl, hb⟩; have P0_w3 := Lib.hid ((P0_w2.out).below hb); have P1_w3 := Lib.hid ((P1_w2.out).below hb); have HB_w3 : Hid (Below w.heap.size w w3) := bel0 HB_w2.out hb; obtain ⟨p0w30, p0w31, p0w32, p0w33⟩ := P0_w3.out.cells; have ltP0_w3 := P0_w3.out.lt; obtain ⟨p1w30, p1w31, p1w32, p1w33⟩ := P1_w3.out.cells; have ltP1_w3 := P1_w3.out.lt; clear hb))
      | (go_at_call 34; ((with_reducible refine (HY.out _).mono ?_); rintro e w4 ⟨rfl, hb⟩; have P0_w4 := Lib.hid ((P0_w3.out).below hb); have P1_w4 := Lib.hid ((P1_w3.out).below hb); have HB_w4 : Hid (Below w.heap.size w w4) := bel0 HB_w3.out hb; obtain ⟨p0w40, p0w41, p0w42, p0w43⟩ := P0_w4.out.cells; have ltP0_w4 := P0_w4.out.lt; obtain ⟨p1w40, p1w41, p1w42, p1w43⟩ := P1_w4.out.cells; have ltP1_w4 := P1_w4.out.lt; clear hb))
      | (go_at_call 15; ((with_reducible refine (HM.out _).mono ?_); rintro e w5 ⟨rfl, hb⟩; have P0_w5 := Lib.hid ((P0_w4.out).below hb); have P1_w5 := Lib.hid ((P1_w4.out).below hb); have HB_w5 : Hid (Below w.heap.size w w5) := bel0 HB_w4.out hb; obtain ⟨p0w50, p0w51, p0w52, p0w53⟩ := P0_w5.out.cells; have ltP0_w5 := P0_w5.out.lt; obtain ⟨p1w50, p1w51, p1w52, p1w53⟩ := P1_w5.out.cells; have ltP1_w5 := P1_w5.out.lt; clear hb))
      | fail)
    go_ret
    exact ⟨rfl, (HB_w5.out.trans ((below1 _ _).mono HB_w5.out.size))⟩
end Go.Proofs.Ytnccamhajndkjaa
