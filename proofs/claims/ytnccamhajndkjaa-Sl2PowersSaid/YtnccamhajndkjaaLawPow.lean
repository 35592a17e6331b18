/- Sl2Powers answers true: what it does to the world; powers with a sum of exponents are products. -/
import Derived.Test.YtnccamhajndkjaaRPowL
import Derived.Test.YtnccamhajndkjaaLawActs
namespace Go.Proofs.Ytnccamhajndkjaa
open Go.RowKit

theorem powE_zp {m x : M} {n : Int} (h : powE m n = (x, 0)) : m.det = 1 ∧ x = m.zp n ∧ -1000 ≤ n ∧ n ≤ 1000 := by
  have hk : chkI m.a m.b m.c m.d = 0 := by
    by_cases c : chkI m.a m.b m.c m.d = 0
    · exact c
    · rw [powE_bad c] at h
      simp only [Prod.mk.injEq] at h
      exact h.2
  have hd : m.det = 1 := by
    rcases chk_cases m.a m.b m.c m.d with ⟨_, k⟩ | ⟨_, k, _⟩ | ⟨_, _, k⟩
    · omega
    · exact k
    · omega
  by_cases hn : n < -1000 ∨ 1000 < n
  · rw [powE_out hk hn] at h; cases h
  · rcases Int.lt_or_le n 0 with h0 | h0
    · rw [powE_neg hk h0 (by omega)] at h
      unfold powF at h
      split at h
      · cases h
        exact ⟨hd, by unfold M.zp; rw [if_pos h0], by omega, by omega⟩
      · cases h
    · rw [powE_pos hk h0 (by omega)] at h
      unfold powF at h
      split at h
      · cases h
        exact ⟨hd, by unfold M.zp; rw [if_neg (by omega)], by omega, by omega⟩
      · cases h
theorem pow_sum {m x y z t : M} {n k : Int} (h1 : powE m n = (x, 0)) (h2 : powE m k = (y, 0)) (h3 : powE m (n + k) = (z, 0)) (h4 : mulE x y = (t, 0)) : z = t := by
  obtain ⟨hd, rfl, _, _⟩ := powE_zp h1
  obtain ⟨_, rfl, _, _⟩ := powE_zp h2
  obtain ⟨_, rfl, _, _⟩ := powE_zp h3
  obtain ⟨_, _, rfl, _⟩ := mulE_zero h4
  exact M.zp_add hd n k

set_option maxHeartbeats 3200000 in
set_option maxRecDepth 1000000 in
theorem powers_walk (a b c d n k : Int) (w : World) (hk8 : (Lit.int .i8 k).wf = true) :
    Calls Try.prog 5 #[.agg #[.int .i64 a, .int .i64 b, .int .i64 c, .int .i64 d], .int .i64 n, .int .i8 k] w fun e w' => e = .returned (.bool true) ∧ Below w.heap.size w w' := by
  have hk : -128 ≤ k ∧ k ≤ 127 := by simpa [Lit.wf, IntKind.min, IntKind.max, IntKind.signed, IntKind.bits] using hk8
  obtain ⟨kl, kh⟩ := hk
  clear hk8
  obtain ⟨⟨a1, a2, a3, a4⟩, k1, h1⟩ : ∃ m l, powE ⟨a, b, c, d⟩ n = (m, l) := ⟨_, _, rfl⟩
  have HA := Lib.hid (fun W => power_any _ _ _ _ _ _ _ _ _ _ W h1)
  have HB := Lib.hid (fun W => rpower_any _ _ _ _ _ _ _ _ _ _ W h1)
  obtain ⟨⟨c1, c2, c3, c4⟩, k2, h2⟩ : ∃ m l, powE ⟨a, b, c, d⟩ k = (m, l) := ⟨_, _, rfl⟩
  have HC := Lib.hid (fun W => power_any _ _ _ _ _ _ _ _ _ _ W h2)
  by_cases hk1 : k1 = 0
  · subst hk1
    by_cases hk2 : k2 = 0
    · subst hk2
      obtain ⟨_, _, n1, n2⟩ := powE_zp h1
      obtain ⟨⟨d1, d2, d3, d4⟩, k3, h3⟩ : ∃ m l, powE ⟨a, b, c, d⟩ (n + k) = (m, l) := ⟨_, _, rfl⟩
      have HD := Lib.hid (fun W => power_any _ _ _ _ _ _ _ _ _ _ W h3)
      obtain ⟨⟨e1, e2, e3, e4⟩, k4, h4⟩ : ∃ m l, mulE ⟨a1, a2, a3, a4⟩ ⟨c1, c2, c3, c4⟩ = (m, l) := ⟨_, _, rfl⟩
      have HM := Lib.hid (fun W => mul_any _ _ _ _ _ _ _ _ _ _ _ _ _ W h4)
      by_cases hk3 : k3 = 0
      · subst hk3
        by_cases hk4 : k4 = 0
        · subst hk4
          have he := pow_sum h1 h2 h3 h4
          cases he
          clear h1 h2 h3 h4
          go_enter Try.func5, Try.ntmps5
          go_wp2_with (first
            | (go_at_call 12; ((with_reducible refine (awake_any _).mono ?_); rintro e w1 ⟨rfl, hb⟩; have P0_w1 := Lib.hid (((Four.at w (g := w.heap.size) rfl a b c d)).below hb); have HB_w1 : Hid (Below w.heap.size w w1) := bel1 (Below.refl _ _) hb; obtain ⟨p0w10, p0w11, p0w12, p0w13⟩ := P0_w1.out.cells; have ltP0_w1 := P0_w1.out.lt; clear hb))
            | (go_at_call 21; ((with_reducible refine (HA.out _).mono ?_); rintro e w2 ⟨rfl, hb⟩; have P0_w2 := Lib.hid ((P0_w1.out).below hb); have HB_w2 : Hid (Below w.heap.size w w2) := bel0 HB_w1.out hb; obtain ⟨p0w20, p0w21, p0w22, p0w23⟩ := P0_w2.out.cells; have ltP0_w2 := P0_w2.out.lt; clear hb))
            | (go_at_call 22; ((with_reducible refine (HB.out _).mono ?_); rintro e w3 ⟨rfl, hb⟩; have P0_w3 := Lib.hid (((P0_w2.out).alloc _).below hb); have A_w3 := Lib.hid (((Four.at w2 (g := w2.heap.size) rfl a1 a2 a3 a4)).below hb); have HB_w3 : Hid (Below w.heap.size w w3) := bel1 HB_w2.out hb; obtain ⟨p0w30, p0w31, p0w32, p0w33⟩ := P0_w3.out.cells; have ltP0_w3 := P0_w3.out.lt; obtain ⟨aw30, aw31, aw32, aw33⟩ := A_w3.out.cells; have ltA_w3 := A_w3.out.lt; clear hb))
            | (go_at_call 21; ((with_reducible refine (HC.out _).mono ?_); rintro e w4 ⟨rfl, hb⟩; have P0_w4 := Lib.hid (((P0_w3.out).alloc _).below hb); have A_w4 := Lib.hid (((A_w3.out).alloc _).below hb); have B_w4 := Lib.hid (((Four.at w3 (g := w3.heap.size) rfl a1 a2 a3 a4)).below hb); have HB_w4 : Hid (Below w.heap.size w w4) := bel1 HB_w3.out hb; obtain ⟨p0w40, p0w41, p0w42, p0w43⟩ := P0_w4.out.cells; have ltP0_w4 := P0_w4.out.lt; obtain ⟨aw40, aw41, aw42, aw43⟩ := A_w4.out.cells; have ltA_w4 := A_w4.out.lt; obtain ⟨bw40, bw41, bw42, bw43⟩ := B_w4.out.cells; have ltB_w4 := B_w4.out.lt; clear hb))
            | (go_at_call 21; ((with_reducible refine (HD.out _).mono ?_); rintro e w5 ⟨rfl, hb⟩; have P0_w5 := Lib.hid (((P0_w4.out).alloc _).below hb); have A_w5 := Lib.hid (((A_w4.out).alloc _).below hb); have B_w5 := Lib.hid (((B_w4.out).alloc _).below hb); have C_w5 := Lib.hid (((Four.at w4 (g := w4.heap.size) rfl c1 c2 c3 c4)).below hb); have HB_w5 : Hid (Below w.heap.size w w5) := bel1 HB_w4.out hb; obtain ⟨p0w50, p0w51, p0w52, p0w53⟩ := P0_w5.out.cells; have ltP0_w5 := P0_w5.out.lt; obtain ⟨aw50, aw51, aw52, aw53⟩ := A_w5.out.cells; have ltA_w5 := A_w5.out.lt; obtain ⟨bw50, bw51, bw52, bw53⟩ := B_w5.out.cells; have ltB_w5 := B_w5.out.lt; obtain ⟨cw50, cw51, cw52, cw53⟩ := C_w5.out.cells; have ltC_w5 := C_w5.out.lt; clear hb))
            | (go_at_call 15; ((with_reducible refine (HM.out _).mono ?_); rintro e w6 ⟨rfl, hb⟩; have P0_w6 := Lib.hid (((P0_w5.out).alloc _).below hb); have A_w6 := Lib.hid (((A_w5.out).alloc _).below hb); have B_w6 := Lib.hid (((B_w5.out).alloc _).below hb); have C_w6 := Lib.hid (((C_w5.out).alloc _).below hb); have D_w6 := Lib.hid (((Four.at w5 (g := w5.heap.size) rfl d1 d2 d3 d4)).below hb); have HB_w6 : Hid (Below w.heap.size w w6) := bel1 HB_w5.out hb; obtain ⟨p0w60, p0w61, p0w62, p0w63⟩ := P0_w6.out.cells; have ltP0_w6 := P0_w6.out.lt; obtain ⟨aw60, aw61, aw62, aw63⟩ := A_w6.out.cells; have ltA_w6 := A_w6.out.lt; obtain ⟨bw60, bw61, bw62, bw63⟩ := B_w6.out.cells; have ltB_w6 := B_w6.out.lt; obtain ⟨cw60, cw61, cw62, cw63⟩ := C_w6.out.cells; have ltC_w6 := C_w6.out.lt; obtain ⟨dw60, dw61, dw62, dw63⟩ := D_w6.out.cells; have ltD_w6 := D_w6.out.lt; clear hb))
            | fail)
          go_ret
          exact ⟨rfl, (HB_w6.out.trans ((below1 _ _).mono HB_w6.out.size))⟩
        · have hb4 : (k4 != 0) = true := by simpa using hk4
          clear h1 h2 h3 h4 hk4
          go_enter Try.func5, Try.ntmps5
          go_wp2_with (first
            | (go_at_call 12; ((with_reducible refine (awake_any _).mono ?_); rintro e w1 ⟨rfl, hb⟩; have P0_w1 := Lib.hid (((Four.at w (g := w.heap.size) rfl a b c d)).below hb); have HB_w1 : Hid (Below w.heap.size w w1) := bel1 (Below.refl _ _) hb; obtain ⟨p0w10, p0w11, p0w12, p0w13⟩ := P0_w1.out.cells; have ltP0_w1 := P0_w1.out.lt; clear hb))
            | (go_at_call 21; ((with_reducible refine (HA.out _).mono ?_); rintro e w2 ⟨rfl, hb⟩; have P0_w2 := Lib.hid ((P0_w1.out).below hb); have HB_w2 : Hid (Below w.heap.size w w2) := bel0 HB_w1.out hb; obtain ⟨p0w20, p0w21, p0w22, p0w23⟩ := P0_w2.out.cells; have ltP0_w2 := P0_w2.out.lt; clear hb))
            | (go_at_call 22; ((with_reducible refine (HB.out _).mono ?_); rintro e w3 ⟨rfl, hb⟩; have P0_w3 := Lib.hid (((P0_w2.out).alloc _).below hb); have A_w3 := Lib.hid (((Four.at w2 (g := w2.heap.size) rfl a1 a2 a3 a4)).below hb); have HB_w3 : Hid (Below w.heap.size w w3) := bel1 HB_w2.out hb; obtain ⟨p0w30, p0w31, p0w32, p0w33⟩ := P0_w3.out.cells; have ltP0_w3 := P0_w3.out.lt; obtain ⟨aw30, aw31, aw32, aw33⟩ := A_w3.out.cells; have ltA_w3 := A_w3.out.lt; clear hb))
            | (go_at_call 21; ((with_reducible refine (HC.out _).mono ?_); rintro e w4 ⟨rfl, hb⟩; have P0_w4 := Lib.hid (((P0_w3.out).alloc _).below hb); have A_w4 := Lib.hid (((A_w3.out).alloc _).below hb); have B_w4 := Lib.hid (((Four.at w3 (g := w3.heap.size) rfl a1 a2 a3 a4)).below hb); have HB_w4 : Hid (Below w.heap.size w w4) := bel1 HB_w3.out hb; obtain ⟨p0w40, p0w41, p0w42, p0w43⟩ := P0_w4.out.cells; have ltP0_w4 := P0_w4.out.lt; obtain ⟨aw40, aw41, aw42, aw43⟩ := A_w4.out.cells; have ltA_w4 := A_w4.out.lt; obtain ⟨bw40, bw41, bw42, bw43⟩ := B_w4.out.cells; have ltB_w4 := B_w4.out.lt; clear hb))
            | (go_at_call 21; ((with_reducible refine (HD.out _).mono ?_); rintro e w5 ⟨rfl, hb⟩; have P0_w5 := Lib.hid (((P0_w4.out).alloc _).below hb); have A_w5 := Lib.hid (((A_w4.out).alloc _).below hb); have B_w5 := Lib.hid (((B_w4.out).alloc _).below hb); have C_w5 := Lib.hid (((Four.at w4 (g := w4.heap.size) rfl c1 c2 c3 c4)).below hb); have HB_w5 : Hid (Below w.heap.size w w5) := bel1 HB_w4.out hb; obtain ⟨p0w50, p0w51, p0w52, p0w53⟩ := P0_w5.out.cells; have ltP0_w5 := P0_w5.out.lt; obtain ⟨aw50, aw51, aw52, aw53⟩ := A_w5.out.cells; have ltA_w5 := A_w5.out.lt; obtain ⟨bw50, bw51, bw52, bw53⟩ := B_w5.out.cells; have ltB_w5 := B_w5.out.lt; obtain ⟨cw50, cw51, cw52, cw53⟩ := C_w5.out.cells; have ltC_w5 := C_w5.out.lt; clear hb))
            | (go_at_call 15; ((with_reducible refine (HM.out _).mono ?_); rintro e w6 ⟨rfl, hb⟩; have P0_w6 := Lib.hid (((P0_w5.out).alloc _).below hb); have A_w6 := Lib.hid (((A_w5.out).alloc _).below hb); have B_w6 := Lib.hid (((B_w5.out).alloc _).below hb); have C_w6 := Lib.hid (((C_w5.out).alloc _).below hb); have D_w6 := Lib.hid (((Four.at w5 (g := w5.heap.size) rfl d1 d2 d3 d4)).below hb); have HB_w6 : Hid (Below w.heap.size w w6) := bel1 HB_w5.out hb; obtain ⟨p0w60, p0w61, p0w62, p0w63⟩ := P0_w6.out.cells; have ltP0_w6 := P0_w6.out.lt; obtain ⟨aw60, aw61, aw62, aw63⟩ := A_w6.out.cells; have ltA_w6 := A_w6.out.lt; obtain ⟨bw60, bw61, bw62, bw63⟩ := B_w6.out.cells; have ltB_w6 := B_w6.out.lt; obtain ⟨cw60, cw61, cw62, cw63⟩ := C_w6.out.cells; have ltC_w6 := C_w6.out.lt; obtain ⟨dw60, dw61, dw62, dw63⟩ := D_w6.out.cells; have ltD_w6 := D_w6.out.lt; clear hb))
            | fail)
          go_ret
          exact ⟨rfl, (HB_w6.out.trans ((below1 _ _).mono HB_w6.out.size))⟩
      · have hb3 : (k3 != 0) = true := by simpa using hk3
        clear h1 h2 h3 h4 hk3
        go_enter Try.func5, Try.ntmps5
        go_wp2_with (first
          | (go_at_call 12; ((with_reducible refine (awake_any _).mono ?_); rintro e w1 ⟨rfl, hb⟩; have P0_w1 := Lib.hid (((Four.at w (g := w.heap.size) rfl a b c d)).below hb); have HB_w1 : Hid (Below w.heap.size w w1) := bel1 (Below.refl _ _) hb; obtain ⟨p0w10, p0w11, p0w12, p0w13⟩ := P0_w1.out.cells; have ltP0_w1 := P0_w1.out.lt; clear hb))
          | (go_at_call 21; ((with_reducible refine (HA.out _).mono ?_); rintro e w2 ⟨rfl, hb⟩; have P0_w2 := Lib.hid ((P0_w1.out).below hb); have HB_w2 : Hid (Below w.heap.size w w2) := bel0 HB_w1.out hb; obtain ⟨p0w20, p0w21, p0w22, p0w23⟩ := P0_w2.out.cells; have ltP0_w2 := P0_w2.out.lt; clear hb))
          | (go_at_call 22; ((with_reducible refine (HB.out _).mono ?_); rintro e w3 ⟨rfl, hb⟩; have P0_w3 := Lib.hid (((P0_w2.out).alloc _).below hb); have A_w3 := Lib.hid (((Four.at w2 (g := w2.heap.size) rfl a1 a2 a3 a4)).below hb); have HB_w3 : Hid (Below w.heap.size w w3) := bel1 HB_w2.out hb; obtain ⟨p0w30, p0w31, p0w32, p0w33⟩ := P0_w3.out.cells; have ltP0_w3 := P0_w3.out.lt; obtain ⟨aw30, aw31, aw32, aw33⟩ := A_w3.out.cells; have ltA_w3 := A_w3.out.lt; clear hb))
          | (go_at_call 21; ((with_reducible refine (HC.out _).mono ?_); rintro e w4 ⟨rfl, hb⟩; have P0_w4 := Lib.hid (((P0_w3.out).alloc _).below hb); have A_w4 := Lib.hid (((A_w3.out).alloc _).below hb); have B_w4 := Lib.hid (((Four.at w3 (g := w3.heap.size) rfl a1 a2 a3 a4)).below hb); have HB_w4 : Hid (Below w.heap.size w w4) := bel1 HB_w3.out hb; obtain ⟨p0w40, p0w41, p0w42, p0w43⟩ := P0_w4.out.cells; have ltP0_w4 := P0_w4.out.lt; obtain ⟨aw40, aw41, aw42, aw43⟩ := A_w4.out.cells; have ltA_w4 := A_w4.out.lt; obtain ⟨bw40, bw41, bw42, bw43⟩ := B_w4.out.cells; have ltB_w4 := B_w4.out.lt; clear hb))
          | (go_at_call 21; ((with_reducible refine (HD.out _).mono ?_); rintro e w5 ⟨rfl, hb⟩; have P0_w5 := Lib.hid (((P0_w4.out).alloc _).below hb); have A_w5 := Lib.hid (((A_w4.out).alloc _).below hb); have B_w5 := Lib.hid (((B_w4.out).alloc _).below hb); have C_w5 := Lib.hid (((Four.at w4 (g := w4.heap.size) rfl c1 c2 c3 c4)).below hb); have HB_w5 : Hid (Below w.heap.size w w5) := bel1 HB_w4.out hb; obtain ⟨p0w50, p0w51, p0w52, p0w53⟩ := P0_w5.out.cells; have ltP0_w5 := P0_w5.out.lt; obtain ⟨aw50, aw51, aw52, aw53⟩ := A_w5.out.cells; have ltA_w5 := A_w5.out.lt; obtain ⟨bw50, bw51, bw52, bw53⟩ := B_w5.out.cells; have ltB_w5 := B_w5.out.lt; obtain ⟨cw50, cw51, cw52, cw53⟩ := C_w5.out.cells; have ltC_w5 := C_w5.out.lt; clear hb))
          | (go_at_call 15; ((with_reducible refine (HM.out _).mono ?_); rintro e w6 ⟨rfl, hb⟩; have P0_w6 := Lib.hid (((P0_w5.out).alloc _).below hb); have A_w6 := Lib.hid (((A_w5.out).alloc _).below hb); have B_w6 := Lib.hid (((B_w5.out).alloc _).below hb); have C_w6 := Lib.hid (((C_w5.out).alloc _).below hb); have D_w6 := Lib.hid (((Four.at w5 (g := w5.heap.size) rfl d1 d2 d3 d4)).below hb); have HB_w6 : Hid (Below w.heap.size w w6) := bel1 HB_w5.out hb; obtain ⟨p0w60, p0w61, p0w62, p0w63⟩ := P0_w6.out.cells; have ltP0_w6 := P0_w6.out.lt; obtain ⟨aw60, aw61, aw62, aw63⟩ := A_w6.out.cells; have ltA_w6 := A_w6.out.lt; obtain ⟨bw60, bw61, bw62, bw63⟩ := B_w6.out.cells; have ltB_w6 := B_w6.out.lt; obtain ⟨cw60, cw61, cw62, cw63⟩ := C_w6.out.cells; have ltC_w6 := C_w6.out.lt; obtain ⟨dw60, dw61, dw62, dw63⟩ := D_w6.out.cells; have ltD_w6 := D_w6.out.lt; clear hb))
          | fail)
        go_ret
        exact ⟨rfl, (HB_w6.out.trans ((below1 _ _).mono HB_w6.out.size))⟩
    · have hb2 : (k2 != 0) = true := by simpa using hk2
      clear h1 h2 hk2
      go_enter Try.func5, Try.ntmps5
      go_wp2_with (first
        | (go_at_call 12; ((with_reducible refine (awake_any _).mono ?_); rintro e w1 ⟨rfl, hb⟩; have P0_w1 := Lib.hid (((Four.at w (g := w.heap.size) rfl a b c d)).below hb); have HB_w1 : Hid (Below w.heap.size w w1) := bel1 (Below.refl _ _) hb; obtain ⟨p0w10, p0w11, p0w12, p0w13⟩ := P0_w1.out.cells; have ltP0_w1 := P0_w1.out.lt; clear hb))
        | (go_at_call 21; ((with_reducible refine (HA.out _).mono ?_); rintro e w2 ⟨rfl, hb⟩; have P0_w2 := Lib.hid ((P0_w1.out).below hb); have HB_w2 : Hid (Below w.heap.size w w2) := bel0 HB_w1.out hb; obtain ⟨p0w20, p0w21, p0w22, p0w23⟩ := P0_w2.out.cells; have ltP0_w2 := P0_w2.out.lt; clear hb))
        | (go_at_call 22; ((with_reducible refine (HB.out _).mono ?_); rintro e w3 ⟨rfl, hb⟩; have P0_w3 := Lib.hid (((P0_w2.out).alloc _).below hb); have A_w3 := Lib.hid (((Four.at w2 (g := w2.heap.size) rfl a1 a2 a3 a4)).below hb); have HB_w3 : Hid (Below w.heap.size w w3) := bel1 HB_w2.out hb; obtain ⟨p0w30, p0w31, p0w32, p0w33⟩ := P0_w3.out.cells; have ltP0_w3 := P0_w3.out.lt; obtain ⟨aw30, aw31, aw32, aw33⟩ := A_w3.out.cells; have ltA_w3 := A_w3.out.lt; clear hb))
        | (go_at_call 21; ((with_reducible refine (HC.out _).mono ?_); rintro e w4 ⟨rfl, hb⟩; have P0_w4 := Lib.hid (((P0_w3.out).alloc _).below hb); have A_w4 := Lib.hid (((A_w3.out).alloc _).below hb); have B_w4 := Lib.hid (((Four.at w3 (g := w3.heap.size) rfl a1 a2 a3 a4)).below hb); have HB_w4 : Hid (Below w.heap.size w w4) := bel1 HB_w3.out hb; obtain ⟨p0w40, p0w41, p0w42, p0w43⟩ := P0_w4.out.cells; have ltP0_w4 := P0_w4.out.lt; obtain ⟨aw40, aw41, aw42, aw43⟩ := A_w4.out.cells; have ltA_w4 := A_w4.out.lt; obtain ⟨bw40, bw41, bw42, bw43⟩ := B_w4.out.cells; have ltB_w4 := B_w4.out.lt; clear hb))
        | fail)
      go_ret
      exact ⟨rfl, (HB_w4.out.trans ((below1 _ _).mono HB_w4.out.size))⟩
  · have hb1 : (k1 != 0) = true := by simpa using hk1
    clear h1 h2 hk1
    go_enter Try.func5, Try.ntmps5
    go_wp2_with (first
      | (go_at_call 12; ((with_reducible refine (awake_any _).mono ?_); rintro e w1 ⟨rfl, hb⟩; have P0_w1 := Lib.hid (((Four.at w (g := w.heap.size) rfl a b c d)).below hb); have HB_w1 : Hid (Below w.heap.size w w1) := bel1 (Below.refl _ _) hb; obtain ⟨p0w10, p0w11, p0w12, p0w13⟩ := P0_w1.out.cells; have ltP0_w1 := P0_w1.out.lt; clear hb))
      | (go_at_call 21; ((with_reducible refine (HA.out _).mono ?_); rintro e w2 ⟨rfl, hb⟩; have P0_w2 := Lib.hid ((P0_w1.out).below hb); have HB_w2 : Hid (Below w.heap.size w w2) := bel0 HB_w1.out hb; obtain ⟨p0w20, p0w21, p0w22, p0w23⟩ := P0_w2.out.cells; have ltP0_w2 := P0_w2.out.lt; clear hb))
      | (go_at_call 22; ((with_reducible refine (HB.out _).mono ?_); rintro e w3 ⟨rfl, hb⟩; have P0_w3 := Lib.hid (((P0_w2.out).alloc _).below hb); have A_w3 := Lib.hid (((Four.at w2 (g := w2.heap.size) rfl a1 a2 a3 a4)).below hb); have HB_w3 : Hid (Below w.heap.size w w3) := bel1 HB_w2.out hb; obtain ⟨p0w30, p0w31, p0w32, p0w33⟩ := P0_w3.out.cells; have ltP0_w3 := P0_w3.out.lt; obtain ⟨aw30, aw31, aw32, aw33⟩ := A_w3.out.cells; have ltA_w3 := A_w3.out.lt; clear hb))
      | (go_at_call 21; ((with_reducible refine (HC.out _).mono ?_); rintro e w4 ⟨rfl, hb⟩; have P0_w4 := Lib.hid (((P0_w3.out).alloc _).below hb); have A_w4 := Lib.hid (((A_w3.out).alloc _).below hb); have B_w4 := Lib.hid (((Four.at w3 (g := w3.heap.size) rfl a1 a2 a3 a4)).below hb); have HB_w4 : Hid (Below w.heap.size w w4) := bel1 HB_w3.out hb; obtain ⟨p0w40, p0w41, p0w42, p0w43⟩ := P0_w4.out.cells; have ltP0_w4 := P0_w4.out.lt; obtain ⟨aw40, aw41, aw42, aw43⟩ := A_w4.out.cells; have ltA_w4 := A_w4.out.lt; obtain ⟨bw40, bw41, bw42, bw43⟩ := B_w4.out.cells; have ltB_w4 := B_w4.out.lt; clear hb))
      | fail)
    go_ret
    exact ⟨rfl, (HB_w4.out.trans ((below1 _ _).mono HB_w4.out.size))⟩
theorem powers_walk2 (a b c d n k : Int) (w : World) (_ : (Lit.int .i64 n).wf = true) (hk8 : (Lit.int .i8 k).wf = true) :
    Calls Try.prog 5 #[.agg #[.int .i64 a, .int .i64 b, .int .i64 c, .int .i64 d], .int .i64 n, .int .i8 k] w fun e w' => e = .returned (.bool true) ∧ Below w.heap.size w w' := powers_walk a b c d n k w hk8
end Go.Proofs.Ytnccamhajndkjaa
