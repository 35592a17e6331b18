/- Sl2Multiplies answers true for all matrices: what it does to the world. -/
import Derived.Test.YtnccamhajndkjaaLawK
import Derived.Deep.Cut
namespace Go.Proofs.Ytnccamhajndkjaa
open Go.RowKit

set_option maxHeartbeats 3200000 in
set_option maxRecDepth 1000000 in
theorem multiplies_walk (a b c d a' b' c' d' : Int) (w : World) :
    Calls Try.prog 3 #[.agg #[.int .i64 a, .int .i64 b, .int .i64 c, .int .i64 d], .agg #[.int .i64 a', .int .i64 b', .int .i64 c', .int .i64 d']] w fun e w' => e = .returned (.bool true) ∧ Below w.heap.size w w' := by
  obtain ⟨z, k, hz⟩ : ∃ z k, detE a b c d = (z, k) := ⟨_, _, rfl⟩
  have HD := Lib.hid (fun W => det_any a b c d z k W hz)
  have HE := Lib.hid (fun W => rdet_any a b c d z k W hz)
  obtain ⟨⟨p, q, r, s⟩, l, hm⟩ : ∃ m l, mulE ⟨a, b, c, d⟩ ⟨a', b', c', d'⟩ = (m, l) := ⟨_, _, rfl⟩
  have HM := Lib.hid (fun W => mul_any a b c d a' b' c' d' p q r s l W hm)
  have HN := Lib.hid (fun W => rmul_any a b c d a' b' c' d' p q r s l W hm)
  obtain ⟨⟨i1, i2, i3, i4⟩, j, hi⟩ : ∃ m l, invE ⟨a, b, c, d⟩ = (m, l) := ⟨_, _, rfl⟩
  have HI := Lib.hid (fun W => inverse_any a b c d i1 i2 i3 i4 j W hi)
  have HC := Lib.hid (fun W => rcheck_any a b c d W)
  have HK := Lib.hid (fun W => check_any a b c d W)
  clear hz hm
  unfold invE at hi
  dsimp only at hi
  by_cases hk : chkI a b c d = 0
  · rw [if_pos hk] at hi
    rw [hk] at HC HK
    have hfit : fitB a b c d = true := by rcases chk_cases a b c d with ⟨_, h⟩ | ⟨h, _⟩ | ⟨h, _⟩ <;> first | exact h | omega
    have HBK := Lib.hid (fun W => back_any a b c d W hfit)
    unfold M.inv at hi
    cases hi
    clear hk hfit
    go_enter Try.func3, Try.ntmps3
    go_upto_region 11 with (first
      | (go_at_call 12; ((with_reducible refine (awake_any _).mono ?_); rintro e w1 ⟨rfl, hb⟩; have P0_w1 := Lib.hid ((((Four.at w (g := w.heap.size) rfl a b c d)).alloc _).below hb); have P1_w1 := Lib.hid (((Four.at ((w).alloc _) (g := w.heap.size + 1) (by simp) a' b' c' d')).below hb); have HB_w1 : Hid (Below w.heap.size w w1) := bel2 (Below.refl _ _) hb; obtain ⟨p0w10, p0w11, p0w12, p0w13⟩ := P0_w1.out.cells; have ltP0_w1 := P0_w1.out.lt; obtain ⟨p1w10, p1w11, p1w12, p1w13⟩ := P1_w1.out.cells; have ltP1_w1 := P1_w1.out.lt; clear hb))
      | (go_at_call 13; ((with_reducible refine (HD.out _).mono ?_); rintro e w2 ⟨rfl, hb⟩; have P0_w2 := Lib.hid ((P0_w1.out).below hb); have P1_w2 := Lib.hid ((P1_w1.out).below hb); have HB_w2 : Hid (Below w.heap.size w w2) := bel0 HB_w1.out hb; obtain ⟨p0w20, p0w21, p0w22, p0w23⟩ := P0_w2.out.cells; have ltP0_w2 := P0_w2.out.lt; obtain ⟨p1w20, p1w21, p1w22, p1w23⟩ := P1_w2.out.cells; have ltP1_w2 := P1_w2.out.lt; clear hb))
      | (go_at_call 14; ((with_reducible refine (HE.out _).mono ?_); rintro e w3 ⟨rfl, hb⟩; have P0_w3 := Lib.hid ((P0_w2.out).below hb); have P1_w3 := Lib.hid ((P1_w2.out).below hb); have HB_w3 : Hid (Below w.heap.size w w3) := bel0 HB_w2.out hb; obtain ⟨p0w30, p0w31, p0w32, p0w33⟩ := P0_w3.out.cells; have ltP0_w3 := P0_w3.out.lt; obtain ⟨p1w30, p1w31, p1w32, p1w33⟩ := P1_w3.out.cells; have ltP1_w3 := P1_w3.out.lt; clear hb))
      | (go_at_call 15; ((with_reducible refine (HM.out _).mono ?_); rintro e w4 ⟨rfl, hb⟩; have P0_w4 := Lib.hid ((P0_w3.out).below hb); have P1_w4 := Lib.hid ((P1_w3.out).below hb); have HB_w4 : Hid (Below w.heap.size w w4) := bel0 HB_w3.out hb; obtain ⟨p0w40, p0w41, p0w42, p0w43⟩ := P0_w4.out.cells; have ltP0_w4 := P0_w4.out.lt; obtain ⟨p1w40, p1w41, p1w42, p1w43⟩ := P1_w4.out.cells; have ltP1_w4 := P1_w4.out.lt; clear hb))
      | (go_at_call 16; ((with_reducible refine (HN.out _).mono ?_); rintro e w5 ⟨rfl, hb⟩; have P0_w5 := Lib.hid (((P0_w4.out).alloc _).below hb); have P1_w5 := Lib.hid (((P1_w4.out).alloc _).below hb); have PM_w5 := Lib.hid (((Four.at w4 (g := w4.heap.size) rfl p q r s)).below hb); have HB_w5 : Hid (Below w.heap.size w w5) := bel1 HB_w4.out hb; obtain ⟨p0w50, p0w51, p0w52, p0w53⟩ := P0_w5.out.cells; have ltP0_w5 := P0_w5.out.lt; obtain ⟨p1w50, p1w51, p1w52, p1w53⟩ := P1_w5.out.cells; have ltP1_w5 := P1_w5.out.lt; obtain ⟨pmw50, pmw51, pmw52, pmw53⟩ := PM_w5.out.cells; have ltPM_w5 := PM_w5.out.lt; clear hb))
      | (go_at_call 17; ((with_reducible refine (HI.out _).mono ?_); rintro e w6 ⟨rfl, hb⟩; have P0_w6 := Lib.hid (((P0_w5.out).alloc _).below hb); have P1_w6 := Lib.hid (((P1_w5.out).alloc _).below hb); have PM_w6 := Lib.hid (((PM_w5.out).alloc _).below hb); have QM_w6 := Lib.hid (((Four.at w5 (g := w5.heap.size) rfl p q r s)).below hb); have HB_w6 : Hid (Below w.heap.size w w6) := bel1 HB_w5.out hb; obtain ⟨p0w60, p0w61, p0w62, p0w63⟩ := P0_w6.out.cells; have ltP0_w6 := P0_w6.out.lt; obtain ⟨p1w60, p1w61, p1w62, p1w63⟩ := P1_w6.out.cells; have ltP1_w6 := P1_w6.out.lt; obtain ⟨pmw60, pmw61, pmw62, pmw63⟩ := PM_w6.out.cells; have ltPM_w6 := PM_w6.out.lt; obtain ⟨qmw60, qmw61, qmw62, qmw63⟩ := QM_w6.out.cells; have ltQM_w6 := QM_w6.out.lt; clear hb))
      | (go_at_call 18; ((with_reducible refine (HC.out _).mono ?_); rintro e w7 ⟨rfl, hb⟩; have P0_w7 := Lib.hid ((((P0_w6.out).alloc _).alloc _).below hb); have P1_w7 := Lib.hid ((((P1_w6.out).alloc _).alloc _).below hb); have PM_w7 := Lib.hid ((((PM_w6.out).alloc _).alloc _).below hb); have QM_w7 := Lib.hid ((((QM_w6.out).alloc _).alloc _).below hb); have IM_w7 := Lib.hid ((((Four.at w6 (g := w6.heap.size) rfl d (-b) (-c) a)).alloc _).below hb); have JM_w7 := Lib.hid (((Four.at ((w6).alloc _) (g := w6.heap.size + 1) (by simp) 0 0 0 0)).below hb); have HB_w7 : Hid (Below w.heap.size w w7) := bel2 HB_w6.out hb; obtain ⟨p0w70, p0w71, p0w72, p0w73⟩ := P0_w7.out.cells; have ltP0_w7 := P0_w7.out.lt; obtain ⟨p1w70, p1w71, p1w72, p1w73⟩ := P1_w7.out.cells; have ltP1_w7 := P1_w7.out.lt; obtain ⟨pmw70, pmw71, pmw72, pmw73⟩ := PM_w7.out.cells; have ltPM_w7 := PM_w7.out.lt; obtain ⟨qmw70, qmw71, qmw72, qmw73⟩ := QM_w7.out.cells; have ltQM_w7 := QM_w7.out.lt; obtain ⟨imw70, imw71, imw72, imw73⟩ := IM_w7.out.cells; have ltIM_w7 := IM_w7.out.lt; obtain ⟨jmw70, jmw71, jmw72, jmw73⟩ := JM_w7.out.cells; have ltJM_w7 := JM_w7.out.lt; clear hb))
      | (go_at_call 19; ((with_reducible refine (HBK.out _).mono ?_); rintro e w8 ⟨rfl, hb⟩; have P0_w8 := Lib.hid ((P0_w7.out).below hb); have P1_w8 := Lib.hid ((P1_w7.out).below hb); have PM_w8 := Lib.hid ((PM_w7.out).below hb); have QM_w8 := Lib.hid ((QM_w7.out).below hb); have IM_w8 := Lib.hid ((IM_w7.out).below hb); have JM_w8 := Lib.hid ((JM_w7.out).below hb); have HB_w8 : Hid (Below w.heap.size w w8) := bel0 HB_w7.out hb; obtain ⟨p0w80, p0w81, p0w82, p0w83⟩ := P0_w8.out.cells; have ltP0_w8 := P0_w8.out.lt; obtain ⟨p1w80, p1w81, p1w82, p1w83⟩ := P1_w8.out.cells; have ltP1_w8 := P1_w8.out.lt; obtain ⟨pmw80, pmw81, pmw82, pmw83⟩ := PM_w8.out.cells; have ltPM_w8 := PM_w8.out.lt; obtain ⟨qmw80, qmw81, qmw82, qmw83⟩ := QM_w8.out.cells; have ltQM_w8 := QM_w8.out.lt; obtain ⟨imw80, imw81, imw82, imw83⟩ := IM_w8.out.cells; have ltIM_w8 := IM_w8.out.lt; have frJM_w8 := JM_w8.out.free; obtain ⟨jmw80, jmw81, jmw82, jmw83⟩ := JM_w8.out.cells; have ltJM_w8 := JM_w8.out.lt; clear hb))
      | fail)
    obtain ⟨W9, hW9⟩ : ∃ W9, W9 = ((((w8.setCell ⟨w6.heap.size + 1, 0, none⟩ (.int .i64 d)).setCell ⟨w6.heap.size + 1, 1, none⟩ (.int .i64 (-b))).setCell ⟨w6.heap.size + 1, 2, none⟩ (.int .i64 (-c))).setCell ⟨w6.heap.size + 1, 3, none⟩ (.int .i64 a)) := ⟨_, rfl⟩
    have P0_w9 : Hid (Four W9 w.heap.size a b c d) := by rw [hW9]; exact P0_w8.out.other (by omega) _ _ _ _
    have PM_w9 : Hid (Four W9 w4.heap.size p q r s) := by rw [hW9]; exact PM_w8.out.other (by omega) _ _ _ _
    have QM_w9 : Hid (Four W9 w5.heap.size p q r s) := by rw [hW9]; exact QM_w8.out.other (by omega) _ _ _ _
    have IM_w9 : Hid (Four W9 w6.heap.size d (-b) (-c) a) := by rw [hW9]; exact IM_w8.out.other (by omega) _ _ _ _
    have JM_w9 : Hid (Four W9 (w6.heap.size + 1) d (-b) (-c) a) := by rw [hW9]; exact JM_w8.out.set _ _ _ _
    have HB_w9 : Hid (Below w.heap.size w W9) := by rw [hW9]; exact below_set4 HB_w8.out (by omega) _ _ _ _
    rw [← hW9]
    clear hW9
    have HB_z0 := Lib.hid (HB_w9.out.drew)
    have P0_z0 := Lib.hid (P0_w9.out.drew)
    have PM_z0 := Lib.hid (PM_w9.out.drew)
    have QM_z0 := Lib.hid (QM_w9.out.drew)
    have IM_z0 := Lib.hid (IM_w9.out.drew)
    have JM_z0 := Lib.hid (JM_w9.out.drew)
    go_region_held3 (fun w' => (w'.cell? ⟨w.heap.size, 0, none⟩ = some (.int .i64 a) ∧ w'.cell? ⟨w.heap.size, 1, none⟩ = some (.int .i64 b) ∧ w'.cell? ⟨w.heap.size, 2, none⟩ = some (.int .i64 c) ∧ w'.cell? ⟨w.heap.size, 3, none⟩ = some (.int .i64 d)) ∧ (w'.cell? ⟨w4.heap.size, 0, none⟩ = some (.int .i64 p) ∧ w'.cell? ⟨w4.heap.size, 1, none⟩ = some (.int .i64 q) ∧ w'.cell? ⟨w4.heap.size, 2, none⟩ = some (.int .i64 r) ∧ w'.cell? ⟨w4.heap.size, 3, none⟩ = some (.int .i64 s)) ∧ (w'.cell? ⟨w5.heap.size, 0, none⟩ = some (.int .i64 p) ∧ w'.cell? ⟨w5.heap.size, 1, none⟩ = some (.int .i64 q) ∧ w'.cell? ⟨w5.heap.size, 2, none⟩ = some (.int .i64 r) ∧ w'.cell? ⟨w5.heap.size, 3, none⟩ = some (.int .i64 s)) ∧ (w'.cell? ⟨w6.heap.size, 0, none⟩ = some (.int .i64 d) ∧ w'.cell? ⟨w6.heap.size, 1, none⟩ = some (.int .i64 (-b)) ∧ w'.cell? ⟨w6.heap.size, 2, none⟩ = some (.int .i64 (-c)) ∧ w'.cell? ⟨w6.heap.size, 3, none⟩ = some (.int .i64 a)) ∧ (w'.cell? ⟨w6.heap.size + 1, 0, none⟩ = some (.int .i64 d) ∧ w'.cell? ⟨w6.heap.size + 1, 1, none⟩ = some (.int .i64 (-b)) ∧ w'.cell? ⟨w6.heap.size + 1, 2, none⟩ = some (.int .i64 (-c)) ∧ w'.cell? ⟨w6.heap.size + 1, 3, none⟩ = some (.int .i64 a)))
      (with_reducible first | exact ⟨P0_z3.out.cells, PM_z3.out.cells, QM_z3.out.cells, IM_z3.out.cells, JM_z3.out.cells⟩ | exact ⟨P0_z2.out.cells, PM_z2.out.cells, QM_z2.out.cells, IM_z2.out.cells, JM_z2.out.cells⟩ | exact ⟨P0_z1.out.cells, PM_z1.out.cells, QM_z1.out.cells, IM_z1.out.cells, JM_z1.out.cells⟩ | exact ⟨P0_z0.out.cells, PM_z0.out.cells, QM_z0.out.cells, IM_z0.out.cells, JM_z0.out.cells⟩ | fail)
      (first
        | (go_at_call 18; ((with_reducible refine (HC.out _).mono ?_); rintro e z1 ⟨rfl, hb⟩; have P0_z1 := Lib.hid ((P0_z0.out).below hb); have PM_z1 := Lib.hid ((PM_z0.out).below hb); have QM_z1 := Lib.hid ((QM_z0.out).below hb); have IM_z1 := Lib.hid ((IM_z0.out).below hb); have JM_z1 := Lib.hid ((JM_z0.out).below hb); have HB_z1 : Hid (Below w.heap.size w z1) := bel0 HB_z0.out hb; clear hb))
        | (go_at_call 20; ((with_reducible refine (HK.out _).mono ?_); rintro e z2 ⟨rfl, hb⟩; have P0_z2 := Lib.hid ((P0_z1.out).below hb); have PM_z2 := Lib.hid ((PM_z1.out).below hb); have QM_z2 := Lib.hid ((QM_z1.out).below hb); have IM_z2 := Lib.hid ((IM_z1.out).below hb); have JM_z2 := Lib.hid ((JM_z1.out).below hb); have HB_z2 : Hid (Below w.heap.size w z2) := bel0 HB_z1.out hb; clear hb))
        | (go_at_call 18; ((with_reducible refine (HC.out _).mono ?_); rintro e z3 ⟨rfl, hb⟩; have P0_z3 := Lib.hid ((P0_z2.out).below hb); have PM_z3 := Lib.hid ((PM_z2.out).below hb); have QM_z3 := Lib.hid ((QM_z2.out).below hb); have IM_z3 := Lib.hid ((IM_z2.out).below hb); have JM_z3 := Lib.hid ((JM_z2.out).below hb); have HB_z3 : Hid (Below w.heap.size w z3) := bel0 HB_z2.out hb; clear hb))
        | fail)
    go_wp2
    go_ret
    exact ⟨rfl, HB_z3.out⟩
  · rw [if_neg hk] at hi
    generalize chkI a b c d = kk at *
    have hk1 : (kk == 0) = false := by simpa using hk
    clear hk
    unfold M.zero at hi
    cases hi
    go_enter Try.func3, Try.ntmps3
    go_upto_region 11 with (first
      | (go_at_call 12; ((with_reducible refine (awake_any _).mono ?_); rintro e w1 ⟨rfl, hb⟩; have P0_w1 := Lib.hid ((((Four.at w (g := w.heap.size) rfl a b c d)).alloc _).below hb); have P1_w1 := Lib.hid (((Four.at ((w).alloc _) (g := w.heap.size + 1) (by simp) a' b' c' d')).below hb); have HB_w1 : Hid (Below w.heap.size w w1) := bel2 (Below.refl _ _) hb; obtain ⟨p0w10, p0w11, p0w12, p0w13⟩ := P0_w1.out.cells; have ltP0_w1 := P0_w1.out.lt; obtain ⟨p1w10, p1w11, p1w12, p1w13⟩ := P1_w1.out.cells; have ltP1_w1 := P1_w1.out.lt; clear hb))
      | (go_at_call 13; ((with_reducible refine (HD.out _).mono ?_); rintro e w2 ⟨rfl, hb⟩; have P0_w2 := Lib.hid ((P0_w1.out).below hb); have P1_w2 := Lib.hid ((P1_w1.out).below hb); have HB_w2 : Hid (Below w.heap.size w w2) := bel0 HB_w1.out hb; obtain ⟨p0w20, p0w21, p0w22, p0w23⟩ := P0_w2.out.cells; have ltP0_w2 := P0_w2.out.lt; obtain ⟨p1w20, p1w21, p1w22, p1w23⟩ := P1_w2.out.cells; have ltP1_w2 := P1_w2.out.lt; clear hb))
      | (go_at_call 14; ((with_reducible refine (HE.out _).mono ?_); rintro e w3 ⟨rfl, hb⟩; have P0_w3 := Lib.hid ((P0_w2.out).below hb); have P1_w3 := Lib.hid ((P1_w2.out).below hb); have HB_w3 : Hid (Below w.heap.size w w3) := bel0 HB_w2.out hb; obtain ⟨p0w30, p0w31, p0w32, p0w33⟩ := P0_w3.out.cells; have ltP0_w3 := P0_w3.out.lt; obtain ⟨p1w30, p1w31, p1w32, p1w33⟩ := P1_w3.out.cells; have ltP1_w3 := P1_w3.out.lt; clear hb))
      | (go_at_call 15; ((with_reducible refine (HM.out _).mono ?_); rintro e w4 ⟨rfl, hb⟩; have P0_w4 := Lib.hid ((P0_w3.out).below hb); have P1_w4 := Lib.hid ((P1_w3.out).below hb); have HB_w4 : Hid (Below w.heap.size w w4) := bel0 HB_w3.out hb; obtain ⟨p0w40, p0w41, p0w42, p0w43⟩ := P0_w4.out.cells; have ltP0_w4 := P0_w4.out.lt; obtain ⟨p1w40, p1w41, p1w42, p1w43⟩ := P1_w4.out.cells; have ltP1_w4 := P1_w4.out.lt; clear hb))
      | (go_at_call 16; ((with_reducible refine (HN.out _).mono ?_); rintro e w5 ⟨rfl, hb⟩; have P0_w5 := Lib.hid (((P0_w4.out).alloc _).below hb); have P1_w5 := Lib.hid (((P1_w4.out).alloc _).below hb); have PM_w5 := Lib.hid (((Four.at w4 (g := w4.heap.size) rfl p q r s)).below hb); have HB_w5 : Hid (Below w.heap.size w w5) := bel1 HB_w4.out hb; obtain ⟨p0w50, p0w51, p0w52, p0w53⟩ := P0_w5.out.cells; have ltP0_w5 := P0_w5.out.lt; obtain ⟨p1w50, p1w51, p1w52, p1w53⟩ := P1_w5.out.cells; have ltP1_w5 := P1_w5.out.lt; obtain ⟨pmw50, pmw51, pmw52, pmw53⟩ := PM_w5.out.cells; have ltPM_w5 := PM_w5.out.lt; clear hb))
      | (go_at_call 17; ((with_reducible refine (HI.out _).mono ?_); rintro e w6 ⟨rfl, hb⟩; have P0_w6 := Lib.hid (((P0_w5.out).alloc _).below hb); have P1_w6 := Lib.hid (((P1_w5.out).alloc _).below hb); have PM_w6 := Lib.hid (((PM_w5.out).alloc _).below hb); have QM_w6 := Lib.hid (((Four.at w5 (g := w5.heap.size) rfl p q r s)).below hb); have HB_w6 : Hid (Below w.heap.size w w6) := bel1 HB_w5.out hb; obtain ⟨p0w60, p0w61, p0w62, p0w63⟩ := P0_w6.out.cells; have ltP0_w6 := P0_w6.out.lt; obtain ⟨p1w60, p1w61, p1w62, p1w63⟩ := P1_w6.out.cells; have ltP1_w6 := P1_w6.out.lt; obtain ⟨pmw60, pmw61, pmw62, pmw63⟩ := PM_w6.out.cells; have ltPM_w6 := PM_w6.out.lt; obtain ⟨qmw60, qmw61, qmw62, qmw63⟩ := QM_w6.out.cells; have ltQM_w6 := QM_w6.out.lt; clear hb))
      | (go_at_call 18; ((with_reducible refine (HC.out _).mono ?_); rintro e w7 ⟨rfl, hb⟩; have P0_w7 := Lib.hid ((((P0_w6.out).alloc _).alloc _).below hb); have P1_w7 := Lib.hid ((((P1_w6.out).alloc _).alloc _).below hb); have PM_w7 := Lib.hid ((((PM_w6.out).alloc _).alloc _).below hb); have QM_w7 := Lib.hid ((((QM_w6.out).alloc _).alloc _).below hb); have IM_w7 := Lib.hid ((((Four.at w6 (g := w6.heap.size) rfl 0 0 0 0)).alloc _).below hb); have JM_w7 := Lib.hid (((Four.at ((w6).alloc _) (g := w6.heap.size + 1) (by simp) 0 0 0 0)).below hb); have HB_w7 : Hid (Below w.heap.size w w7) := bel2 HB_w6.out hb; obtain ⟨p0w70, p0w71, p0w72, p0w73⟩ := P0_w7.out.cells; have ltP0_w7 := P0_w7.out.lt; obtain ⟨p1w70, p1w71, p1w72, p1w73⟩ := P1_w7.out.cells; have ltP1_w7 := P1_w7.out.lt; obtain ⟨pmw70, pmw71, pmw72, pmw73⟩ := PM_w7.out.cells; have ltPM_w7 := PM_w7.out.lt; obtain ⟨qmw70, qmw71, qmw72, qmw73⟩ := QM_w7.out.cells; have ltQM_w7 := QM_w7.out.lt; obtain ⟨imw70, imw71, imw72, imw73⟩ := IM_w7.out.cells; have ltIM_w7 := IM_w7.out.lt; obtain ⟨jmw70, jmw71, jmw72, jmw73⟩ := JM_w7.out.cells; have ltJM_w7 := JM_w7.out.lt; clear hb))
      | fail)
    have HB_z0 := Lib.hid (HB_w7.out.drew)
    have P0_z0 := Lib.hid (P0_w7.out.drew)
    have PM_z0 := Lib.hid (PM_w7.out.drew)
    have QM_z0 := Lib.hid (QM_w7.out.drew)
    have IM_z0 := Lib.hid (IM_w7.out.drew)
    have JM_z0 := Lib.hid (JM_w7.out.drew)
    go_region_held3 (fun w' => (w'.cell? ⟨w.heap.size, 0, none⟩ = some (.int .i64 a) ∧ w'.cell? ⟨w.heap.size, 1, none⟩ = some (.int .i64 b) ∧ w'.cell? ⟨w.heap.size, 2, none⟩ = some (.int .i64 c) ∧ w'.cell? ⟨w.heap.size, 3, none⟩ = some (.int .i64 d)) ∧ (w'.cell? ⟨w4.heap.size, 0, none⟩ = some (.int .i64 p) ∧ w'.cell? ⟨w4.heap.size, 1, none⟩ = some (.int .i64 q) ∧ w'.cell? ⟨w4.heap.size, 2, none⟩ = some (.int .i64 r) ∧ w'.cell? ⟨w4.heap.size, 3, none⟩ = some (.int .i64 s)) ∧ (w'.cell? ⟨w5.heap.size, 0, none⟩ = some (.int .i64 p) ∧ w'.cell? ⟨w5.heap.size, 1, none⟩ = some (.int .i64 q) ∧ w'.cell? ⟨w5.heap.size, 2, none⟩ = some (.int .i64 r) ∧ w'.cell? ⟨w5.heap.size, 3, none⟩ = some (.int .i64 s)) ∧ (w'.cell? ⟨w6.heap.size, 0, none⟩ = some (.int .i64 0) ∧ w'.cell? ⟨w6.heap.size, 1, none⟩ = some (.int .i64 0) ∧ w'.cell? ⟨w6.heap.size, 2, none⟩ = some (.int .i64 0) ∧ w'.cell? ⟨w6.heap.size, 3, none⟩ = some (.int .i64 0)) ∧ (w'.cell? ⟨w6.heap.size + 1, 0, none⟩ = some (.int .i64 0) ∧ w'.cell? ⟨w6.heap.size + 1, 1, none⟩ = some (.int .i64 0) ∧ w'.cell? ⟨w6.heap.size + 1, 2, none⟩ = some (.int .i64 0) ∧ w'.cell? ⟨w6.heap.size + 1, 3, none⟩ = some (.int .i64 0)))
      (with_reducible first | exact ⟨P0_z3.out.cells, PM_z3.out.cells, QM_z3.out.cells, IM_z3.out.cells, JM_z3.out.cells⟩ | exact ⟨P0_z2.out.cells, PM_z2.out.cells, QM_z2.out.cells, IM_z2.out.cells, JM_z2.out.cells⟩ | exact ⟨P0_z1.out.cells, PM_z1.out.cells, QM_z1.out.cells, IM_z1.out.cells, JM_z1.out.cells⟩ | exact ⟨P0_z0.out.cells, PM_z0.out.cells, QM_z0.out.cells, IM_z0.out.cells, JM_z0.out.cells⟩ | fail)
      (first
        | (go_at_call 18; ((with_reducible refine (HC.out _).mono ?_); rintro e z1 ⟨rfl, hb⟩; have P0_z1 := Lib.hid ((P0_z0.out).below hb); have PM_z1 := Lib.hid ((PM_z0.out).below hb); have QM_z1 := Lib.hid ((QM_z0.out).below hb); have IM_z1 := Lib.hid ((IM_z0.out).below hb); have JM_z1 := Lib.hid ((JM_z0.out).below hb); have HB_z1 : Hid (Below w.heap.size w z1) := bel0 HB_z0.out hb; clear hb))
        | (go_at_call 20; ((with_reducible refine (HK.out _).mono ?_); rintro e z2 ⟨rfl, hb⟩; have P0_z2 := Lib.hid ((P0_z1.out).below hb); have PM_z2 := Lib.hid ((PM_z1.out).below hb); have QM_z2 := Lib.hid ((QM_z1.out).below hb); have IM_z2 := Lib.hid ((IM_z1.out).below hb); have JM_z2 := Lib.hid ((JM_z1.out).below hb); have HB_z2 : Hid (Below w.heap.size w z2) := bel0 HB_z1.out hb; clear hb))
        | (go_at_call 18; ((with_reducible refine (HC.out _).mono ?_); rintro e z3 ⟨rfl, hb⟩; have P0_z3 := Lib.hid ((P0_z2.out).below hb); have PM_z3 := Lib.hid ((PM_z2.out).below hb); have QM_z3 := Lib.hid ((QM_z2.out).below hb); have IM_z3 := Lib.hid ((IM_z2.out).below hb); have JM_z3 := Lib.hid ((JM_z2.out).below hb); have HB_z3 : Hid (Below w.heap.size w z3) := bel0 HB_z2.out hb; clear hb))
        | fail)
    go_wp2
    go_ret
    exact ⟨rfl, HB_z3.out⟩
end Go.Proofs.Ytnccamhajndkjaa
