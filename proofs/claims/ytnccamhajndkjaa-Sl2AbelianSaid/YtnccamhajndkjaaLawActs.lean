/- Sl2Acts answers true: what it does to the world; the mathematics: a product maps a cusp as its factors do, one after the other. -/
import Derived.Test.YtnccamhajndkjaaLawK
namespace Go.Proofs.Ytnccamhajndkjaa
open Go.RowKit

theorem appE_zero {a b c d p q u v : Int} (h : appE a b c d p q = (u, v, 0)) : fitB a b c d = true ∧ ¬ a * d - b * c = 0 ∧ cuspI p q = 0 ∧ low (a * p + b * q) (c * p + d * q) = (u, v) ∧ inE u = true ∧ inE v = true := by
  unfold appE at h
  split at h
  · cases h
  · rename_i h1
    split at h
    · cases h
    · rename_i h2
      split at h
      · rename_i h3
        simp only [Prod.mk.injEq] at h
        exact absurd h.2.2 h3
      · rename_i h3
        split at h
        · cases h
        · rename_i h4
          obtain ⟨x, y, e⟩ : ∃ x y, low (a * p + b * q) (c * p + d * q) = (x, y) := ⟨_, _, rfl⟩
          rw [e] at h h4
          dsimp only at h h4
          cases h
          refine ⟨by simpa using h1, h2, by omega, e, ?_, ?_⟩
          · cases e1 : inE u with
            | true => rfl
            | false => exact absurd (.inl e1) h4
          · cases e1 : inE v with
            | true => rfl
            | false => exact absurd (.inr e1) h4
theorem mulE_zero {x y m : M} (h : mulE x y = (m, 0)) : x.ok = true ∧ y.ok = true ∧ m = x.mul y ∧ m.ok = true := by
  unfold mulE at h
  split at h
  · cases h
  · rename_i h1
    split at h
    · cases h
    · rename_i h2
      cases h
      simp at h1
      exact ⟨h1.1, h1.2, rfl, by simpa using h2⟩
theorem act_eq {x y m : M} {p q u v : Int} (hy : appE y.a y.b y.c y.d p q = (u, v, 0)) (hm : mulE x y = (m, 0)) : appE x.a x.b x.c x.d u v = appE m.a m.b m.c m.d p q := by
  obtain ⟨h1, h2, h3, h4, h5, h6⟩ := appE_zero hy
  obtain ⟨hx, _, rfl, hmo⟩ := mulE_zero hm
  have hpq := cusp_ne h3
  have hne := img_ne h2 hpq
  obtain ⟨s, hs, _, e1, e2, hlow⟩ := low_spec hne h4
  have hcu : cuspI u v = 0 := cuspI_zero.2 ⟨h5, (inE_iff.1 h6).2, hlow⟩
  have hdet := M.det_mul x y
  unfold M.det at hdet
  by_cases hd : x.a * x.d - x.b * x.c = 0
  · rw [hd, Int.zero_mul] at hdet
    rw [appE_2 hx hd, appE_2 hmo hdet]
  · have hd2 : ¬ (x.mul y).a * (x.mul y).d - (x.mul y).b * (x.mul y).c = 0 := by
      rw [hdet]; intro k; rcases Int.mul_eq_zero.1 k with k | k
      · exact hd k
      · exact h2 k
    have e3 : (x.mul y).a * p + (x.mul y).b * q = s * (x.a * u + x.b * v) := by
      show (x.a * y.a + x.b * y.c) * p + (x.a * y.b + x.b * y.d) * q = _
      have : s * (x.a * u + x.b * v) = x.a * (s * u) + x.b * (s * v) := by rw [Int.mul_add, Int.mul_left_comm, Int.mul_left_comm s x.b]
      rw [this, ← e1, ← e2]
      simp only [Int.add_mul, Int.mul_add, Int.mul_assoc]; omega
    have e4 : (x.mul y).c * p + (x.mul y).d * q = s * (x.c * u + x.d * v) := by
      show (x.c * y.a + x.d * y.c) * p + (x.c * y.b + x.d * y.d) * q = _
      have : s * (x.c * u + x.d * v) = x.c * (s * u) + x.d * (s * v) := by rw [Int.mul_add, Int.mul_left_comm, Int.mul_left_comm s x.d]
      rw [this, ← e1, ← e2]
      simp only [Int.add_mul, Int.mul_add, Int.mul_assoc]; omega
    have e5 : low ((x.mul y).a * p + (x.mul y).b * q) ((x.mul y).c * p + (x.mul y).d * q) = low (x.a * u + x.b * v) (x.c * u + x.d * v) := by
      rw [e3, e4]; exact low_scale hs (img_ne hd hlow.ne)
    have f1 : fitB x.a x.b x.c x.d = true := hx
    have f2 : fitB (x.mul y).a (x.mul y).b (x.mul y).c (x.mul y).d = true := hmo
    unfold appE
    rw [if_neg (show ¬ fitB x.a x.b x.c x.d = false by rw [f1]; simp), if_neg hd, if_neg (show ¬ ¬ cuspI u v = 0 by omega), if_neg (show ¬ fitB (x.mul y).a (x.mul y).b (x.mul y).c (x.mul y).d = false by rw [f2]; simp), if_neg hd2, if_neg (show ¬ ¬ cuspI p q = 0 by omega), e5]

set_option maxHeartbeats 3200000 in
set_option maxRecDepth 1000000 in
theorem acts_walk (a b c d a' b' c' d' p q : Int) (w : World) :
    Calls Try.prog 7 #[.agg #[.int .i64 a, .int .i64 b, .int .i64 c, .int .i64 d], .agg #[.int .i64 a', .int .i64 b', .int .i64 c', .int .i64 d'], .agg #[.int .i64 p, .int .i64 q]] w fun e w' => e = .returned (.bool true) ∧ Below w.heap.size w w' := by
  obtain ⟨u, v, k, hr⟩ : ∃ u v k, appE a' b' c' d' p q = (u, v, k) := ⟨_, _, _, rfl⟩
  have HA := Lib.hid (fun W => apply_any a' b' c' d' p q u v k W hr)
  obtain ⟨⟨m1, m2, m3, m4⟩, l, hm⟩ : ∃ m l, mulE ⟨a, b, c, d⟩ ⟨a', b', c', d'⟩ = (m, l) := ⟨_, _, rfl⟩
  have HM := Lib.hid (fun W => mul_any a b c d a' b' c' d' m1 m2 m3 m4 l W hm)
  by_cases hk : k = 0
  · subst hk
    by_cases hl : l = 0
    · subst hl
      have he := act_eq (x := ⟨a, b, c, d⟩) (y := ⟨a', b', c', d'⟩) (m := ⟨m1, m2, m3, m4⟩) hr hm
      dsimp only at he
      obtain ⟨i, j, g, hg⟩ : ∃ i j g, appE a b c d u v = (i, j, g) := ⟨_, _, _, rfl⟩
      rw [hg] at he
      have HX := Lib.hid (fun W => apply_any a b c d u v i j g W hg)
      have HY := Lib.hid (fun W => apply_any m1 m2 m3 m4 p q i j g W he.symm)
      clear hr hm he hg
      go_enter Try.func7, Try.ntmps7
      go_wp2_with (first
        | (go_at_call 12; ((with_reducible refine (awake_any _).mono ?_); rintro e w1 ⟨rfl, hb⟩; have P0_w1 := Lib.hid (((((Four.at w (g := w.heap.size) rfl a b c d)).alloc _).alloc _).below hb); have P1_w1 := Lib.hid ((((Four.at ((w).alloc _) (g := w.heap.size + 1) (by simp) a' b' c' d')).alloc _).below hb); have P2_w1 := Lib.hid (((Two.at (((w).alloc _).alloc _) (g := w.heap.size + 1 + 1) (by simp) p q)).below hb); have HB_w1 : Hid (Below w.heap.size w w1) := bel3 (Below.refl _ _) hb; obtain ⟨p0w10, p0w11, p0w12, p0w13⟩ := P0_w1.out.cells; have ltP0_w1 := P0_w1.out.lt; obtain ⟨p1w10, p1w11, p1w12, p1w13⟩ := P1_w1.out.cells; have ltP1_w1 := P1_w1.out.lt; obtain ⟨p2w10, p2w11⟩ := P2_w1.out.cells; have ltP2_w1 := P2_w1.out.lt; clear hb))
        | (go_at_call 23; ((with_reducible refine (HA.out _).mono ?_); rintro e w2 ⟨rfl, hb⟩; have P0_w2 := Lib.hid ((P0_w1.out).below hb); have P1_w2 := Lib.hid ((P1_w1.out).below hb); have P2_w2 := Lib.hid ((P2_w1.out).below hb); have HB_w2 : Hid (Below w.heap.size w w2) := bel0 HB_w1.out hb; obtain ⟨p0w20, p0w21, p0w22, p0w23⟩ := P0_w2.out.cells; have ltP0_w2 := P0_w2.out.lt; obtain ⟨p1w20, p1w21, p1w22, p1w23⟩ := P1_w2.out.cells; have ltP1_w2 := P1_w2.out.lt; obtain ⟨p2w20, p2w21⟩ := P2_w2.out.cells; have ltP2_w2 := P2_w2.out.lt; clear hb))
        | (go_at_call 15; ((with_reducible refine (HM.out _).mono ?_); rintro e w3 ⟨rfl, hb⟩; have P0_w3 := Lib.hid (((P0_w2.out).alloc _).below hb); have P1_w3 := Lib.hid (((P1_w2.out).alloc _).below hb); have P2_w3 := Lib.hid (((P2_w2.out).alloc _).below hb); have A_w3 := Lib.hid (((Two.at w2 (g := w2.heap.size) rfl u v)).below hb); have HB_w3 : Hid (Below w.heap.size w w3) := bel1 HB_w2.out hb; obtain ⟨p0w30, p0w31, p0w32, p0w33⟩ := P0_w3.out.cells; have ltP0_w3 := P0_w3.out.lt; obtain ⟨p1w30, p1w31, p1w32, p1w33⟩ := P1_w3.out.cells; have ltP1_w3 := P1_w3.out.lt; obtain ⟨p2w30, p2w31⟩ := P2_w3.out.cells; have ltP2_w3 := P2_w3.out.lt; obtain ⟨aw30, aw31⟩ := A_w3.out.cells; have ltA_w3 := A_w3.out.lt; clear hb))
        | (go_at_call 23; ((with_reducible refine (HX.out _).mono ?_); rintro e w4 ⟨rfl, hb⟩; have P0_w4 := Lib.hid (((P0_w3.out).alloc _).below hb); have P1_w4 := Lib.hid (((P1_w3.out).alloc _).below hb); have P2_w4 := Lib.hid (((P2_w3.out).alloc _).below hb); have A_w4 := Lib.hid (((A_w3.out).alloc _).below hb); have MM_w4 := Lib.hid (((Four.at w3 (g := w3.heap.size) rfl m1 m2 m3 m4)).below hb); have HB_w4 : Hid (Below w.heap.size w w4) := bel1 HB_w3.out hb; obtain ⟨p0w40, p0w41, p0w42, p0w43⟩ := P0_w4.out.cells; have ltP0_w4 := P0_w4.out.lt; obtain ⟨p1w40, p1w41, p1w42, p1w43⟩ := P1_w4.out.cells; have ltP1_w4 := P1_w4.out.lt; obtain ⟨p2w40, p2w41⟩ := P2_w4.out.cells; have ltP2_w4 := P2_w4.out.lt; obtain ⟨aw40, aw41⟩ := A_w4.out.cells; have ltA_w4 := A_w4.out.lt; obtain ⟨mmw40, mmw41, mmw42, mmw43⟩ := MM_w4.out.cells; have ltMM_w4 := MM_w4.out.lt; clear hb))
        | (go_at_call 23; ((with_reducible refine (HY.out _).mono ?_); rintro e w5 ⟨rfl, hb⟩; have P0_w5 := Lib.hid (((P0_w4.out).alloc _).below hb); have P1_w5 := Lib.hid (((P1_w4.out).alloc _).below hb); have P2_w5 := Lib.hid (((P2_w4.out).alloc _).below hb); have A_w5 := Lib.hid (((A_w4.out).alloc _).below hb); have MM_w5 := Lib.hid (((MM_w4.out).alloc _).below hb); have E_w5 := Lib.hid (((Two.at w4 (g := w4.heap.size) rfl i j)).below hb); have HB_w5 : Hid (Below w.heap.size w w5) := bel1 HB_w4.out hb; obtain ⟨p0w50, p0w51, p0w52, p0w53⟩ := P0_w5.out.cells; have ltP0_w5 := P0_w5.out.lt; obtain ⟨p1w50, p1w51, p1w52, p1w53⟩ := P1_w5.out.cells; have ltP1_w5 := P1_w5.out.lt; obtain ⟨p2w50, p2w51⟩ := P2_w5.out.cells; have ltP2_w5 := P2_w5.out.lt; obtain ⟨aw50, aw51⟩ := A_w5.out.cells; have ltA_w5 := A_w5.out.lt; obtain ⟨mmw50, mmw51, mmw52, mmw53⟩ := MM_w5.out.cells; have ltMM_w5 := MM_w5.out.lt; obtain ⟨ew50, ew51⟩ := E_w5.out.cells; have ltE_w5 := E_w5.out.lt; clear hb))
        | fail)
      go_ret
      exact ⟨rfl, (HB_w5.out.trans ((below1 _ _).mono HB_w5.out.size))⟩
    · have hl1 : (l != 0) = true := by simpa using hl
      clear hr hm hl
      go_enter Try.func7, Try.ntmps7
      go_wp2_with (first
        | (go_at_call 12; ((with_reducible refine (awake_any _).mono ?_); rintro e w1 ⟨rfl, hb⟩; have P0_w1 := Lib.hid (((((Four.at w (g := w.heap.size) rfl a b c d)).alloc _).alloc _).below hb); have P1_w1 := Lib.hid ((((Four.at ((w).alloc _) (g := w.heap.size + 1) (by simp) a' b' c' d')).alloc _).below hb); have P2_w1 := Lib.hid (((Two.at (((w).alloc _).alloc _) (g := w.heap.size + 1 + 1) (by simp) p q)).below hb); have HB_w1 : Hid (Below w.heap.size w w1) := bel3 (Below.refl _ _) hb; obtain ⟨p0w10, p0w11, p0w12, p0w13⟩ := P0_w1.out.cells; have ltP0_w1 := P0_w1.out.lt; obtain ⟨p1w10, p1w11, p1w12, p1w13⟩ := P1_w1.out.cells; have ltP1_w1 := P1_w1.out.lt; obtain ⟨p2w10, p2w11⟩ := P2_w1.out.cells; have ltP2_w1 := P2_w1.out.lt; clear hb))
        | (go_at_call 23; ((with_reducible refine (HA.out _).mono ?_); rintro e w2 ⟨rfl, hb⟩; have P0_w2 := Lib.hid ((P0_w1.out).below hb); have P1_w2 := Lib.hid ((P1_w1.out).below hb); have P2_w2 := Lib.hid ((P2_w1.out).below hb); have HB_w2 : Hid (Below w.heap.size w w2) := bel0 HB_w1.out hb; obtain ⟨p0w20, p0w21, p0w22, p0w23⟩ := P0_w2.out.cells; have ltP0_w2 := P0_w2.out.lt; obtain ⟨p1w20, p1w21, p1w22, p1w23⟩ := P1_w2.out.cells; have ltP1_w2 := P1_w2.out.lt; obtain ⟨p2w20, p2w21⟩ := P2_w2.out.cells; have ltP2_w2 := P2_w2.out.lt; clear hb))
        | (go_at_call 15; ((with_reducible refine (HM.out _).mono ?_); rintro e w3 ⟨rfl, hb⟩; have P0_w3 := Lib.hid (((P0_w2.out).alloc _).below hb); have P1_w3 := Lib.hid (((P1_w2.out).alloc _).below hb); have P2_w3 := Lib.hid (((P2_w2.out).alloc _).below hb); have A_w3 := Lib.hid (((Two.at w2 (g := w2.heap.size) rfl u v)).below hb); have HB_w3 : Hid (Below w.heap.size w w3) := bel1 HB_w2.out hb; obtain ⟨p0w30, p0w31, p0w32, p0w33⟩ := P0_w3.out.cells; have ltP0_w3 := P0_w3.out.lt; obtain ⟨p1w30, p1w31, p1w32, p1w33⟩ := P1_w3.out.cells; have ltP1_w3 := P1_w3.out.lt; obtain ⟨p2w30, p2w31⟩ := P2_w3.out.cells; have ltP2_w3 := P2_w3.out.lt; obtain ⟨aw30, aw31⟩ := A_w3.out.cells; have ltA_w3 := A_w3.out.lt; clear hb))
        | fail)
      go_ret
      exact ⟨rfl, (HB_w3.out.trans ((below1 _ _).mono HB_w3.out.size))⟩
  · have hk1 : (k != 0) = true := by simpa using hk
    clear hr hm hk
    go_enter Try.func7, Try.ntmps7
    go_wp2_with (first
      | (go_at_call 12; ((with_reducible refine (awake_any _).mono ?_); rintro e w1 ⟨rfl, hb⟩; have P0_w1 := Lib.hid (((((Four.at w (g := w.heap.size) rfl a b c d)).alloc _).alloc _).below hb); have P1_w1 := Lib.hid ((((Four.at ((w).alloc _) (g := w.heap.size + 1) (by simp) a' b' c' d')).alloc _).below hb); have P2_w1 := Lib.hid (((Two.at (((w).alloc _).alloc _) (g := w.heap.size + 1 + 1) (by simp) p q)).below hb); have HB_w1 : Hid (Below w.heap.size w w1) := bel3 (Below.refl _ _) hb; obtain ⟨p0w10, p0w11, p0w12, p0w13⟩ := P0_w1.out.cells; have ltP0_w1 := P0_w1.out.lt; obtain ⟨p1w10, p1w11, p1w12, p1w13⟩ := P1_w1.out.cells; have ltP1_w1 := P1_w1.out.lt; obtain ⟨p2w10, p2w11⟩ := P2_w1.out.cells; have ltP2_w1 := P2_w1.out.lt; clear hb))
      | (go_at_call 23; ((with_reducible refine (HA.out _).mono ?_); rintro e w2 ⟨rfl, hb⟩; have P0_w2 := Lib.hid ((P0_w1.out).below hb); have P1_w2 := Lib.hid ((P1_w1.out).below hb); have P2_w2 := Lib.hid ((P2_w1.out).below hb); have HB_w2 : Hid (Below w.heap.size w w2) := bel0 HB_w1.out hb; obtain ⟨p0w20, p0w21, p0w22, p0w23⟩ := P0_w2.out.cells; have ltP0_w2 := P0_w2.out.lt; obtain ⟨p1w20, p1w21, p1w22, p1w23⟩ := P1_w2.out.cells; have ltP1_w2 := P1_w2.out.lt; obtain ⟨p2w20, p2w21⟩ := P2_w2.out.cells; have ltP2_w2 := P2_w2.out.lt; clear hb))
      | (go_at_call 15; ((with_reducible refine (HM.out _).mono ?_); rintro e w3 ⟨rfl, hb⟩; have P0_w3 := Lib.hid (((P0_w2.out).alloc _).below hb); have P1_w3 := Lib.hid (((P1_w2.out).alloc _).below hb); have P2_w3 := Lib.hid (((P2_w2.out).alloc _).below hb); have A_w3 := Lib.hid (((Two.at w2 (g := w2.heap.size) rfl u v)).below hb); have HB_w3 : Hid (Below w.heap.size w w3) := bel1 HB_w2.out hb; obtain ⟨p0w30, p0w31, p0w32, p0w33⟩ := P0_w3.out.cells; have ltP0_w3 := P0_w3.out.lt; obtain ⟨p1w30, p1w31, p1w32, p1w33⟩ := P1_w3.out.cells; have ltP1_w3 := P1_w3.out.lt; obtain ⟨p2w30, p2w31⟩ := P2_w3.out.cells; have ltP2_w3 := P2_w3.out.lt; obtain ⟨aw30, aw31⟩ := A_w3.out.cells; have ltA_w3 := A_w3.out.lt; clear hb))
      | fail)
    go_ret
    exact ⟨rfl, (HB_w3.out.trans ((below1 _ _).mono HB_w3.out.size))⟩
end Go.Proofs.Ytnccamhajndkjaa
