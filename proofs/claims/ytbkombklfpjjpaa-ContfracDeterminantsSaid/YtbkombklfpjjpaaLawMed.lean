/- ContfracMediants answers true for all pairs of cusps: what it does to the world. -/
import Derived.Test.YtbkombklfpjjpaaLawK
import Derived.Test.YtbkombklfpjjpaaMedL
import Derived.Test.YtbkombklfpjjpaaRMedL
import Derived.Test.YtbkombklfpjjpaaNbL
namespace Go.Proofs.Ytbkombklfpjjpaa
open Go.RowKit

theorem cop_of_det {x y a b : Int} (h : x * b - a * y = 1) : Int.gcd x y = 1 := by
  have h1 : (Int.gcd x y : Int) ∣ x * b - a * y := Int.dvd_sub (Int.dvd_mul_of_dvd_left (Int.gcd_dvd_left x y)) (Int.dvd_mul_of_dvd_right (Int.gcd_dvd_right x y))
  rw [h] at h1
  have := Int.eq_one_of_dvd_one (by omega) h1
  omega
theorem med_ok {a b c d x y : Int} (h : medE a b c d = (x, y, 0)) : cuspI a b = 0 ∧ cuspI c d = 0 ∧ c * b - medP a b * d = 1 ∧ x = medP a b + c ∧ y = b + d ∧ inE x = true ∧ inE y = true := by
  by_cases h0 : bothI a b c d = 0
  · by_cases k : c * b - medP a b * d = 1
    · by_cases l : inE (medP a b + c) = false ∨ inE (b + d) = false
      · rw [med_3 h0 k l] at h; simp at h
      · rw [med_4 h0 k l] at h
        simp only [Prod.mk.injEq] at h
        obtain ⟨rfl, rfl, _⟩ := h
        refine ⟨(both_ok h0).1, (both_ok h0).2, k, rfl, rfl, ?_, ?_⟩
        · cases e : inE (medP a b + c) with
          | true => rfl
          | false => exact absurd (.inl e) l
        · cases e : inE (b + d) with
          | true => rfl
          | false => exact absurd (.inr e) l
    · rw [med_2 h0 k] at h; simp at h
  · rw [med_1 h0] at h
    simp only [Prod.mk.injEq] at h
    exact absurd h.2.2 h0
theorem med_dets {a b c d x y : Int} (h : medE a b c d = (x, y, 0)) : (a * y - x * b = 1 ∨ a * y - x * b = -1) ∧ x * d - c * y = -1 ∧ (¬ b = 0 → x * b - a * y = 1 ∧ x - a = c) := by
  obtain ⟨h1, h2, h3, rfl, rfl, _, _⟩ := med_ok h
  refine ⟨?_, ?_, ?_⟩
  · by_cases hb : b = 0
    · have ha := (cuspI_zero.1 h1).2.2.inf hb
      subst hb ha
      have : medP 1 0 = -1 := if_pos rfl
      rw [this] at h3 ⊢
      left; omega
    · have : medP a b = a := if_neg hb
      rw [this] at h3 ⊢
      right
      rw [Int.mul_add, Int.add_mul]; omega
  · rw [Int.mul_add, Int.add_mul]; omega
  · intro hb
    have : medP a b = a := if_neg hb
    rw [this] at h3 ⊢
    refine ⟨?_, by omega⟩
    rw [Int.mul_add, Int.add_mul]; omega
theorem med_nbs {a b c d x y : Int} (h : medE a b c d = (x, y, 0)) : Nbs [(a, b), (x, y), (c, d)] := by
  obtain ⟨h1, h2, _, _, _, h6, h7⟩ := med_ok h
  obtain ⟨d1, d2, _⟩ := med_dets h
  obtain ⟨a0, b2, a1⟩ := cuspI_zero.1 h1
  obtain ⟨c0, d2', c1⟩ := cuspI_zero.1 h2
  have b1 := a1.pos
  have e1 := c1.pos
  refine ⟨fun i hi => ?_, fun z hz => ?_⟩
  · match i, hi with
    | 0, _ => exact d1
    | 1, _ => exact .inr d2
    | i + 2, hi => have : i + 2 + 1 < 3 := hi; omega
  · simp at hz
    rcases hz with rfl | rfl | rfl
    · exact ⟨a0, inE_yes (by omega) b2⟩
    · exact ⟨h6, h7⟩
    · exact ⟨c0, inE_yes (by omega) d2'⟩
theorem med_par {a b c d x y : Int} (h : medE a b c d = (x, y, 0)) (hb : ¬ b = 0) (hd : ¬ d = 0) : ParE x y a b c d 0 := by
  obtain ⟨h1, h2, _, _, h5, h6, h7⟩ := med_ok h
  obtain ⟨_, _, h8⟩ := med_dets h
  obtain ⟨d1, d2⟩ := h8 hb
  have b1 := (cuspI_zero.1 h1).2.2.pos
  have e1 := (cuspI_zero.1 h2).2.2.pos
  obtain ⟨_, y2⟩ := inE_iff.1 h7
  refine .inr (.inr ⟨cuspI_zero.2 ⟨h6, y2, ⟨cop_of_det d1, by omega, fun hy => by omega⟩⟩, by omega, ⟨d1, by omega, by omega⟩, by omega, by omega, rfl⟩)
theorem rdc3 (w : World) (a b c d e f : Int) (t : TypeId) {g : Nat} (hg : g = w.heap.size) : RdC (w.alloc (.cells #[.int .i64 a, .int .i64 b, .int .i64 c, .int .i64 d, .int .i64 e, .int .i64 f] t)) (w.heap.size + 1) (some ⟨g, 0, none⟩) 3 [(a, b), (c, d), (e, f)] := by
  subst hg
  refine ⟨by simp, by unfold maxLen; omega, fun _ => ⟨w.heap.size, 0, rfl, by omega, fun k hk => ?_⟩, fun a ha => by cases ha; exact ⟨_, _, rfl⟩⟩
  match k, hk with
  | 0, _ => simp
  | 1, _ => simp
  | 2, _ => simp
theorem nb3 {a b c d e f : Int} (hn : Nbs [(a, b), (c, d), (e, f)]) (w : World) {g : Nat} (hg : g = w.heap.size) :
    Calls Try.prog 24 #[.slice (some ⟨g, 0, none⟩) 3 3] (w.alloc (.cells #[.int .i64 a, .int .i64 b, .int .i64 c, .int .i64 d, .int .i64 e, .int .i64 f] 23)) fun e' w' => e' = .returned (.bool true) ∧
      Below (w.alloc (.cells #[.int .i64 a, .int .i64 b, .int .i64 c, .int .i64 d, .int .i64 e, .int .i64 f] 23)).heap.size (w.alloc (.cells #[.int .i64 a, .int .i64 b, .int .i64 c, .int .i64 d, .int .i64 e, .int .i64 f] 23)) w' := by
  refine (nbs_any _ (rdc3 w a b c d e f _ hg) hn).mono ?_
  rintro e' w' ⟨he, n, rfl⟩
  exact ⟨he, below_drewN (Below.refl _ _) n⟩
set_option maxHeartbeats 3200000 in
set_option maxRecDepth 1000000 in
theorem mediants_walk (a b c d : Int) (w : World) :
    Calls Try.prog 10 #[.agg #[.int .i64 a, .int .i64 b], .agg #[.int .i64 c, .int .i64 d]] w fun e w' => e = .returned (.bool true) ∧ Below w.heap.size w w' := by
  obtain ⟨x, y, k, hr⟩ : ∃ x y k, medE a b c d = (x, y, k) := ⟨_, _, _, rfl⟩
  have HA := Lib.hid (fun W => mediant_any a b c d x y k W hr)
  have HR := Lib.hid (fun W => rmediant_any a b c d x y k W hr)
  by_cases hk : k = 0
  · subst hk
    have HN := Lib.hid (med_nbs hr)
    have HP := Lib.hid (med_par hr)
    clear hr
    by_cases hb0 : b = 0
    · have hb1 : (b == 0) = true := by simpa using hb0
      clear HP hb0
      go_enter Try.func10, Try.ntmps10
      go_wp2_with (first
        | (go_at_call 13; ((with_reducible refine (awake_any _).mono ?_); rintro e w1 ⟨rfl, hb⟩; have P0_w1 := Lib.hid ((((Two.at w (g := w.heap.size) rfl a b)).alloc _).below hb); have P1_w1 := Lib.hid (((Two.at ((w).alloc _) (g := w.heap.size + 1) (by simp) c d)).below hb); have HB_w1 : Hid (Below w.heap.size w w1) := bel2 (Below.refl _ _) hb; obtain ⟨p0w10, p0w11⟩ := P0_w1.out.cells; have ltP0_w1 := P0_w1.out.lt; obtain ⟨p1w10, p1w11⟩ := P1_w1.out.cells; have ltP1_w1 := P1_w1.out.lt; clear hb))
        | (go_at_call 31; ((with_reducible refine (HA.out _).mono ?_); rintro e w2 ⟨rfl, hb⟩; have P0_w2 := Lib.hid ((P0_w1.out).below hb); have P1_w2 := Lib.hid ((P1_w1.out).below hb); have HB_w2 : Hid (Below w.heap.size w w2) := bel0 HB_w1.out hb; obtain ⟨p0w20, p0w21⟩ := P0_w2.out.cells; have ltP0_w2 := P0_w2.out.lt; obtain ⟨p1w20, p1w21⟩ := P1_w2.out.cells; have ltP1_w2 := P1_w2.out.lt; clear hb))
        | (go_at_call 32; ((with_reducible refine (HR.out _).mono ?_); rintro e w3 ⟨rfl, hb⟩; have P0_w3 := Lib.hid (((P0_w2.out).alloc _).below hb); have P1_w3 := Lib.hid (((P1_w2.out).alloc _).below hb); have A_w3 := Lib.hid (((Two.at w2 (g := w2.heap.size) rfl x y)).below hb); have HB_w3 : Hid (Below w.heap.size w w3) := bel1 HB_w2.out hb; obtain ⟨p0w30, p0w31⟩ := P0_w3.out.cells; have ltP0_w3 := P0_w3.out.lt; obtain ⟨p1w30, p1w31⟩ := P1_w3.out.cells; have ltP1_w3 := P1_w3.out.lt; obtain ⟨aw30, aw31⟩ := A_w3.out.cells; have ltA_w3 := A_w3.out.lt; clear hb))
        | (go_at_call 24; ((with_reducible refine (nb3 HN.out _ (by simp)).mono ?_); rintro e w4 ⟨rfl, hb⟩; have P0_w4 := Lib.hid ((((P0_w3.out).alloc _).alloc _).below hb); have P1_w4 := Lib.hid ((((P1_w3.out).alloc _).alloc _).below hb); have A_w4 := Lib.hid ((((A_w3.out).alloc _).alloc _).below hb); have B_w4 := Lib.hid ((((Two.at w3 (g := w3.heap.size) rfl x y)).alloc _).below hb); have HB_w4 : Hid (Below w.heap.size w w4) := bel2 HB_w3.out hb; obtain ⟨p0w40, p0w41⟩ := P0_w4.out.cells; have ltP0_w4 := P0_w4.out.lt; obtain ⟨p1w40, p1w41⟩ := P1_w4.out.cells; have ltP1_w4 := P1_w4.out.lt; obtain ⟨aw40, aw41⟩ := A_w4.out.cells; have ltA_w4 := A_w4.out.lt; obtain ⟨bw40, bw41⟩ := B_w4.out.cells; have ltB_w4 := B_w4.out.lt; clear hb))
        | (go_at_call 33; ((with_reducible refine (parents_any _ _ _).mono ?_); rintro e w5 ⟨u, v, s, t, j, hp, rfl, hb⟩; clear hp; have P0_w5 := Lib.hid (P0_w4.out.below hb); have P1_w5 := Lib.hid (P1_w4.out.below hb); have HB_w5 : Hid (Below w.heap.size w w5) := bel0 HB_w4.out hb; obtain ⟨p0w50, p0w51⟩ := P0_w5.out.cells; have ltP0_w5 := P0_w5.out.lt; obtain ⟨p1w50, p1w51⟩ := P1_w5.out.cells; have ltP1_w5 := P1_w5.out.lt; clear hb))
        | fail)
      go_ret
      exact ⟨rfl, bel0 HB_w5.out (below2 _ _ _)⟩
    · by_cases hd0 : d = 0
      · have hd1 : (d == 0) = true := by simpa using hd0
        have hb1 : (b == 0) = false := by simpa using hb0
        clear HP hb0 hd0
        go_enter Try.func10, Try.ntmps10
        go_wp2_with (first
          | (go_at_call 13; ((with_reducible refine (awake_any _).mono ?_); rintro e w1 ⟨rfl, hb⟩; have P0_w1 := Lib.hid ((((Two.at w (g := w.heap.size) rfl a b)).alloc _).below hb); have P1_w1 := Lib.hid (((Two.at ((w).alloc _) (g := w.heap.size + 1) (by simp) c d)).below hb); have HB_w1 : Hid (Below w.heap.size w w1) := bel2 (Below.refl _ _) hb; obtain ⟨p0w10, p0w11⟩ := P0_w1.out.cells; have ltP0_w1 := P0_w1.out.lt; obtain ⟨p1w10, p1w11⟩ := P1_w1.out.cells; have ltP1_w1 := P1_w1.out.lt; clear hb))
          | (go_at_call 31; ((with_reducible refine (HA.out _).mono ?_); rintro e w2 ⟨rfl, hb⟩; have P0_w2 := Lib.hid ((P0_w1.out).below hb); have P1_w2 := Lib.hid ((P1_w1.out).below hb); have HB_w2 : Hid (Below w.heap.size w w2) := bel0 HB_w1.out hb; obtain ⟨p0w20, p0w21⟩ := P0_w2.out.cells; have ltP0_w2 := P0_w2.out.lt; obtain ⟨p1w20, p1w21⟩ := P1_w2.out.cells; have ltP1_w2 := P1_w2.out.lt; clear hb))
          | (go_at_call 32; ((with_reducible refine (HR.out _).mono ?_); rintro e w3 ⟨rfl, hb⟩; have P0_w3 := Lib.hid (((P0_w2.out).alloc _).below hb); have P1_w3 := Lib.hid (((P1_w2.out).alloc _).below hb); have A_w3 := Lib.hid (((Two.at w2 (g := w2.heap.size) rfl x y)).below hb); have HB_w3 : Hid (Below w.heap.size w w3) := bel1 HB_w2.out hb; obtain ⟨p0w30, p0w31⟩ := P0_w3.out.cells; have ltP0_w3 := P0_w3.out.lt; obtain ⟨p1w30, p1w31⟩ := P1_w3.out.cells; have ltP1_w3 := P1_w3.out.lt; obtain ⟨aw30, aw31⟩ := A_w3.out.cells; have ltA_w3 := A_w3.out.lt; clear hb))
          | (go_at_call 24; ((with_reducible refine (nb3 HN.out _ (by simp)).mono ?_); rintro e w4 ⟨rfl, hb⟩; have P0_w4 := Lib.hid ((((P0_w3.out).alloc _).alloc _).below hb); have P1_w4 := Lib.hid ((((P1_w3.out).alloc _).alloc _).below hb); have A_w4 := Lib.hid ((((A_w3.out).alloc _).alloc _).below hb); have B_w4 := Lib.hid ((((Two.at w3 (g := w3.heap.size) rfl x y)).alloc _).below hb); have HB_w4 : Hid (Below w.heap.size w w4) := bel2 HB_w3.out hb; obtain ⟨p0w40, p0w41⟩ := P0_w4.out.cells; have ltP0_w4 := P0_w4.out.lt; obtain ⟨p1w40, p1w41⟩ := P1_w4.out.cells; have ltP1_w4 := P1_w4.out.lt; obtain ⟨aw40, aw41⟩ := A_w4.out.cells; have ltA_w4 := A_w4.out.lt; obtain ⟨bw40, bw41⟩ := B_w4.out.cells; have ltB_w4 := B_w4.out.lt; clear hb))
          | (go_at_call 33; ((with_reducible refine (parents_any _ _ _).mono ?_); rintro e w5 ⟨u, v, s, t, j, hp, rfl, hb⟩; clear hp; have P0_w5 := Lib.hid (P0_w4.out.below hb); have P1_w5 := Lib.hid (P1_w4.out.below hb); have HB_w5 : Hid (Below w.heap.size w w5) := bel0 HB_w4.out hb; obtain ⟨p0w50, p0w51⟩ := P0_w5.out.cells; have ltP0_w5 := P0_w5.out.lt; obtain ⟨p1w50, p1w51⟩ := P1_w5.out.cells; have ltP1_w5 := P1_w5.out.lt; clear hb))
          | fail)
        go_ret
        exact ⟨rfl, bel0 HB_w5.out (below2 _ _ _)⟩
      · have HP2 := Lib.hid (HP.out hb0 hd0)
        have hb1 : (b == 0) = false := by simpa using hb0
        have hd1 : (d == 0) = false := by simpa using hd0
        clear HP hb0 hd0
        go_enter Try.func10, Try.ntmps10
        go_wp2_with (first
          | (go_at_call 13; ((with_reducible refine (awake_any _).mono ?_); rintro e w1 ⟨rfl, hb⟩; have P0_w1 := Lib.hid ((((Two.at w (g := w.heap.size) rfl a b)).alloc _).below hb); have P1_w1 := Lib.hid (((Two.at ((w).alloc _) (g := w.heap.size + 1) (by simp) c d)).below hb); have HB_w1 : Hid (Below w.heap.size w w1) := bel2 (Below.refl _ _) hb; obtain ⟨p0w10, p0w11⟩ := P0_w1.out.cells; have ltP0_w1 := P0_w1.out.lt; obtain ⟨p1w10, p1w11⟩ := P1_w1.out.cells; have ltP1_w1 := P1_w1.out.lt; clear hb))
          | (go_at_call 31; ((with_reducible refine (HA.out _).mono ?_); rintro e w2 ⟨rfl, hb⟩; have P0_w2 := Lib.hid ((P0_w1.out).below hb); have P1_w2 := Lib.hid ((P1_w1.out).below hb); have HB_w2 : Hid (Below w.heap.size w w2) := bel0 HB_w1.out hb; obtain ⟨p0w20, p0w21⟩ := P0_w2.out.cells; have ltP0_w2 := P0_w2.out.lt; obtain ⟨p1w20, p1w21⟩ := P1_w2.out.cells; have ltP1_w2 := P1_w2.out.lt; clear hb))
          | (go_at_call 32; ((with_reducible refine (HR.out _).mono ?_); rintro e w3 ⟨rfl, hb⟩; have P0_w3 := Lib.hid (((P0_w2.out).alloc _).below hb); have P1_w3 := Lib.hid (((P1_w2.out).alloc _).below hb); have A_w3 := Lib.hid (((Two.at w2 (g := w2.heap.size) rfl x y)).below hb); have HB_w3 : Hid (Below w.heap.size w w3) := bel1 HB_w2.out hb; obtain ⟨p0w30, p0w31⟩ := P0_w3.out.cells; have ltP0_w3 := P0_w3.out.lt; obtain ⟨p1w30, p1w31⟩ := P1_w3.out.cells; have ltP1_w3 := P1_w3.out.lt; obtain ⟨aw30, aw31⟩ := A_w3.out.cells; have ltA_w3 := A_w3.out.lt; clear hb))
          | (go_at_call 24; ((with_reducible refine (nb3 HN.out _ (by simp)).mono ?_); rintro e w4 ⟨rfl, hb⟩; have P0_w4 := Lib.hid ((((P0_w3.out).alloc _).alloc _).below hb); have P1_w4 := Lib.hid ((((P1_w3.out).alloc _).alloc _).below hb); have A_w4 := Lib.hid ((((A_w3.out).alloc _).alloc _).below hb); have B_w4 := Lib.hid ((((Two.at w3 (g := w3.heap.size) rfl x y)).alloc _).below hb); have HB_w4 : Hid (Below w.heap.size w w4) := bel2 HB_w3.out hb; obtain ⟨p0w40, p0w41⟩ := P0_w4.out.cells; have ltP0_w4 := P0_w4.out.lt; obtain ⟨p1w40, p1w41⟩ := P1_w4.out.cells; have ltP1_w4 := P1_w4.out.lt; obtain ⟨aw40, aw41⟩ := A_w4.out.cells; have ltA_w4 := A_w4.out.lt; obtain ⟨bw40, bw41⟩ := B_w4.out.cells; have ltB_w4 := B_w4.out.lt; clear hb))
          | (go_at_call 33; ((with_reducible refine (parents_any _ _ _).mono ?_); rintro e w5 ⟨u, v, s, t, j, hp, rfl, hb⟩; obtain ⟨rfl, rfl, rfl, rfl, rfl⟩ := HP2.out.unique hp; clear hp; have P0_w5 := Lib.hid (P0_w4.out.below hb); have P1_w5 := Lib.hid (P1_w4.out.below hb); have HB_w5 : Hid (Below w.heap.size w w5) := bel0 HB_w4.out hb; obtain ⟨p0w50, p0w51⟩ := P0_w5.out.cells; have ltP0_w5 := P0_w5.out.lt; obtain ⟨p1w50, p1w51⟩ := P1_w5.out.cells; have ltP1_w5 := P1_w5.out.lt; clear hb))
          | fail)
        go_ret
        exact ⟨rfl, bel0 HB_w5.out (below2 _ _ _)⟩
  · have hk1 : (k != 0) = true := by simpa using hk
    clear hr hk
    go_enter Try.func10, Try.ntmps10
    go_wp2_with (first
      | (go_at_call 13; ((with_reducible refine (awake_any _).mono ?_); rintro e w1 ⟨rfl, hb⟩; have P0_w1 := Lib.hid ((((Two.at w (g := w.heap.size) rfl a b)).alloc _).below hb); have P1_w1 := Lib.hid (((Two.at ((w).alloc _) (g := w.heap.size + 1) (by simp) c d)).below hb); have HB_w1 : Hid (Below w.heap.size w w1) := bel2 (Below.refl _ _) hb; obtain ⟨p0w10, p0w11⟩ := P0_w1.out.cells; have ltP0_w1 := P0_w1.out.lt; obtain ⟨p1w10, p1w11⟩ := P1_w1.out.cells; have ltP1_w1 := P1_w1.out.lt; clear hb))
      | (go_at_call 31; ((with_reducible refine (HA.out _).mono ?_); rintro e w2 ⟨rfl, hb⟩; have P0_w2 := Lib.hid ((P0_w1.out).below hb); have P1_w2 := Lib.hid ((P1_w1.out).below hb); have HB_w2 : Hid (Below w.heap.size w w2) := bel0 HB_w1.out hb; obtain ⟨p0w20, p0w21⟩ := P0_w2.out.cells; have ltP0_w2 := P0_w2.out.lt; obtain ⟨p1w20, p1w21⟩ := P1_w2.out.cells; have ltP1_w2 := P1_w2.out.lt; clear hb))
      | (go_at_call 32; ((with_reducible refine (HR.out _).mono ?_); rintro e w3 ⟨rfl, hb⟩; have P0_w3 := Lib.hid (((P0_w2.out).alloc _).below hb); have P1_w3 := Lib.hid (((P1_w2.out).alloc _).below hb); have A_w3 := Lib.hid (((Two.at w2 (g := w2.heap.size) rfl x y)).below hb); have HB_w3 : Hid (Below w.heap.size w w3) := bel1 HB_w2.out hb; obtain ⟨p0w30, p0w31⟩ := P0_w3.out.cells; have ltP0_w3 := P0_w3.out.lt; obtain ⟨p1w30, p1w31⟩ := P1_w3.out.cells; have ltP1_w3 := P1_w3.out.lt; obtain ⟨aw30, aw31⟩ := A_w3.out.cells; have ltA_w3 := A_w3.out.lt; clear hb))
      | fail)
    go_ret
    exact ⟨rfl, bel0 HB_w3.out (below1 _ _)⟩
end Go.Proofs.Ytbkombklfpjjpaa
