/- Contracts of the combination of congruences. -/
import Derived.Test.YtlagljnhbhnelaaInvL
import Derived.Lib.Hide
import Derived.Deep.QuietTactic
import Derived.BigQuiet
namespace Go.Proofs.Ytlagljnhbhnelaa
open Go.RowKit

theorem inRange_no (n : Int) (w : World) (h : n < 1 ∨ 2147483647 < n) :
    Calls Try.prog 78 #[.int .i64 n] w fun e w' => e = .returned (.bool false) ∧ w = w' := by
  by_cases h1 : n < 1
  · have hb : decide (1 ≤ n) = false := by simpa using h1
    go_enter Try.func78, Try.ntmps78
    go_wp2
    go_ret
    exact ⟨rfl, rfl⟩
  · have h2 : 2147483647 < n := by omega
    have h3 : 1 ≤ n := by omega
    clear h
    go_enter Try.func78, Try.ntmps78
    go_wp2
    go_ret
    exact ⟨by simp; omega, rfl⟩
theorem isU_bounds {a b u : Int} (h : IsU a b (Int.gcd a b) u) (hb : b.natAbs ≤ 2147483647) (ha : a.natAbs ≤ 2147483647) : 0 ≤ u ∧ u ≤ 2147483647 ∧ (-4611686014132420609 ≤ u * a ∧ u * a ≤ 4611686014132420609) ∧ (Int.gcd a b : Int) ≤ 2147483647 := by
  have h1 := h.lo
  have h2 := h.hi
  have h3 := Nat.div_le_self b.natAbs (Int.gcd a b)
  have hu : u.natAbs ≤ 2147483647 := by omega
  have h4 : (u * a).natAbs ≤ 2147483647 * 2147483647 := by
    rw [Int.natAbs_mul]; exact Nat.mul_le_mul hu ha
  have h5 : Int.gcd a b ≤ 2147483647 := by
    by_cases hz : b = 0
    · subst hz; simp; exact ha
    · have : Int.gcd a b ≤ b.natAbs := Nat.le_of_dvd (by omega) (Int.ofNat_dvd_left.1 (Int.gcd_dvd_right a b))
      omega
  omega

theorem quiet_add_left {P : Program} {f : FuncId} {args : Array Value} {w : World} {a n : Nat} {v : Value}
    (h : Calls P f args (w.drewN (a + n)) fun e w' => e = .returned v ∧ w.drewN (a + n) = w') :
    Calls P f args (w.drewN (a + n)) fun e w'' => e = .returned v ∧ ∃ m, w'' = w.drewN (a + m) :=
  h.mono fun _ _ ⟨he, hm⟩ => ⟨he, n, hm.symm⟩
theorem quiet_left {P : Program} {f : FuncId} {args : Array Value} {w : World} {n : Nat} {v : Value}
    (h : Calls P f args (w.drewN n) fun e w' => e = .returned v ∧ w.drewN n = w') : Calls P f args (w.drewN n) fun e w'' => e = .returned v ∧ ∃ m, w'' = w.drewN m :=
  h.mono fun _ _ ⟨he, hm⟩ => ⟨he, n, hm.symm⟩

/-- One step of Crt: the error, or the congruence that is equivalent to both. -/
def CombIs (ar am br bm r m e : Int) : Prop :=
  ((bm < 1 ∨ 2147483647 < bm) ∧ r = 0 ∧ m = 0 ∧ e = 2) ∨
  ((1 ≤ bm ∧ bm ≤ 2147483647) ∧ ¬ (Int.gcd am bm : Int) ∣ br - ar ∧ r = 0 ∧ m = 0 ∧ e = 24) ∨
  ((1 ≤ bm ∧ bm ≤ 2147483647) ∧ (Int.gcd am bm : Int) ∣ br - ar ∧ 2147483647 < am * (bm / (Int.gcd am bm : Int)) ∧ r = 0 ∧ m = 0 ∧ e = 7) ∨
  ((1 ≤ bm ∧ bm ≤ 2147483647) ∧ am * (bm / (Int.gcd am bm : Int)) ≤ 2147483647 ∧ m = am * (bm / (Int.gcd am bm : Int)) ∧ 0 ≤ r ∧ r < m ∧ am ∣ r - ar ∧ bm ∣ r - br ∧ e = 0)

set_option maxHeartbeats 800000 in
theorem combine_no (ar am br bm : Int) (w : World) (h : bm < 1 ∨ 2147483647 < bm) :
    Calls Try.prog 80 #[.agg #[.int .i64 ar, .int .i64 am], .agg #[.int .i64 br, .int .i64 bm]] w fun e w' => e = .returned (.tuple #[.agg #[.int .i64 0, .int .i64 0], .int .i64 2]) ∧ Below w.heap.size w w' := by
  go_enter Try.func80, Try.ntmps80
  go_wp2_with (go_at_call 78; ((with_reducible refine (inRange_no _ _ h).mono ?_); rintro e w' ⟨rfl, rfl⟩))
  exact bodyPost_ret (v := .tuple #[.agg #[.int .i64 0, .int .i64 0], .int .i64 2]) (by simp [results, Try.results80, go_sem]) rfl ⟨rfl, (((Below.refl _ _).alloc (Nat.le_refl _) _).alloc (by simp) _).alloc (by simp; omega) _⟩

theorem dvd_emod_sub (a m : Int) : m ∣ a % m - a := by
  rw [Int.emod_def]
  exact ⟨-(a / m), by rw [Int.mul_neg]; omega⟩
/-- The combination's remainder, as the program computes it. -/
theorem comb_math {ar am br bm u : Int} (ha : 0 ≤ ar) (ham : ar < am) (hb : 1 ≤ bm) (hu : IsU am bm (Int.gcd am bm) u)
    (gap : Int) (hgap : gap = (br - ar) % bm) (hd : (Int.gcd am bm : Int) ∣ gap) (k : Int) (hk : k = (gap / (Int.gcd am bm : Int) * u) % (bm / (Int.gcd am bm : Int))) :
    0 ≤ ar + am * k ∧ ar + am * k < am * (bm / (Int.gcd am bm : Int)) ∧ am ∣ ar + am * k - ar ∧ bm ∣ ar + am * k - br := by
  have hg : 0 < Int.gcd am bm := Int.gcd_pos_of_ne_zero_right am (by omega)
  obtain ⟨a', hA⟩ := Int.gcd_dvd_left am bm
  obtain ⟨b', hB⟩ := Int.gcd_dvd_right am bm
  have hdv := hu.dvd
  generalize hG : (Int.gcd am bm : Int) = g at *
  have hg0 : 0 < g := by omega
  have hbq : bm / g = b' := by conv => lhs; arg 1; rw [hB]
                               exact Int.mul_ediv_cancel_left _ (by omega)
  rw [hbq] at hk ⊢
  have hb0 : 0 < b' := by
    rcases Int.lt_or_le 0 b' with h | h
    · exact h
    · have := Int.mul_nonpos_of_nonneg_of_nonpos (Int.le_of_lt hg0) h
      omega
  have k1 : 0 ≤ k := by rw [hk]; exact Int.emod_nonneg _ (by omega)
  have k2 : k < b' := by rw [hk]; exact Int.emod_lt_of_pos _ hb0
  have m1 : 0 ≤ am * k := Int.mul_nonneg (by omega) k1
  have m2 : am * k ≤ am * (b' - 1) := Int.mul_le_mul_of_nonneg_left (by omega) (by omega)
  have m3 : am * (b' - 1) = am * b' - am := by rw [Int.mul_sub]; omega
  refine ⟨by omega, by omega, ⟨k, by omega⟩, ?_⟩
  obtain ⟨q, hq⟩ := hd
  have hgq : gap / g = q := by rw [hq]; exact Int.mul_ediv_cancel_left _ (by omega)
  rw [hgq] at hk
  obtain ⟨t, ht⟩ := hdv
  obtain ⟨c1, hc1⟩ := dvd_emod_sub (q * u) b'
  obtain ⟨c2, hc2⟩ := dvd_emod_sub (br - ar) bm
  rw [← hk] at hc1
  rw [← hgap] at hc2
  have e1 : am * k = am * (q * u) + am * (b' * c1) := by rw [← Int.mul_add]; congr 1; omega
  have e2 : am * b' = bm * a' := by rw [hA, hB]; grind
  have e3 : am * (q * u) = q * (u * am) := by grind
  have e4 : u * am = g + bm * t := by omega
  refine ⟨c2 + q * t + a' * c1, ?_⟩
  have e5 : am * (b' * c1) = bm * (a' * c1) := by rw [← Int.mul_assoc, e2, Int.mul_assoc]
  have e6 : q * (g + bm * t) = gap + bm * (q * t) := by rw [hq]; grind
  rw [e1, e3, e4, e5, e6]
  grind

theorem comb_iff {ar am br bm : Int} : (Int.gcd am bm : Int) ∣ (br - ar) % bm ↔ (Int.gcd am bm : Int) ∣ br - ar := by
  have hgb := Int.gcd_dvd_right am bm
  obtain ⟨c2, hc2⟩ := dvd_emod_sub (br - ar) bm
  have e : (br - ar) % bm = (br - ar) + bm * c2 := by omega
  rw [e]
  constructor
  · intro h
    have := Int.dvd_sub h (Int.dvd_mul_of_dvd_left (c := c2) hgb)
    rwa [Int.add_sub_cancel] at this
  · intro h
    exact Int.dvd_add h (Int.dvd_mul_of_dvd_left hgb)

set_option maxHeartbeats 800000 in
theorem combine_yes (ar am br bm : Int) (w : World) (ha : 0 ≤ ar) (ham : ar < am) (ha2 : am ≤ 2147483647) (b1 : 1 ≤ bm) (b2 : bm ≤ 2147483647) :
    Calls Try.prog 80 #[.agg #[.int .i64 ar, .int .i64 am], .agg #[.int .i64 br, .int .i64 bm]] w fun e w' => ∃ r m e0 : Int, e = .returned (.tuple #[.agg #[.int .i64 r, .int .i64 m], .int .i64 e0]) ∧ CombIs ar am br bm r m e0 ∧ Below w.heap.size w w' := by
  have h1 := Int.emod_nonneg br (show bm ≠ 0 by omega)
  have h2 := Int.emod_lt_of_pos br (show 0 < bm by omega)
  have h3 := Int.emod_nonneg (br - ar) (show bm ≠ 0 by omega)
  have h4 := Int.emod_lt_of_pos (br - ar) (show 0 < bm by omega)
  go_enter Try.func80, Try.ntmps80
  go_wp2_with (first | (go_at_call 78; ((with_reducible refine (inRange_yes _ _ b1 b2).mono ?_); rintro e w' ⟨rfl, rfl⟩)) | (go_at_call 83; ((with_reducible refine (divisor_any _ _ _ (by omega) (by omega) (by omega) (by omega) (by omega)).mono ?_); rintro e w' ⟨u, rfl, HU0, rfl⟩; have HU := Lib.hid HU0; clear HU0)))
  go_quiet ((go_at_call 73; first | exact quiet_left (residue_any _ _ _ (by omega) (by omega)) | exact quiet_add_left (residue_any _ _ _ (by omega) (by omega))))
  have hg0 : 0 < Int.gcd am bm := Int.gcd_pos_of_ne_zero_right am (by omega)
  have hg1 : Int.gcd am bm ≤ bm.natAbs := Nat.le_of_dvd (by omega) (Int.ofNat_dvd_left.1 (Int.gcd_dvd_right am bm))
  have hg2 : 1 ≤ (Int.gcd am bm : Int) := by omega
  have hg3 : (Int.gcd am bm : Int) ≤ 2147483647 := by omega
  have hq1 : 1 ≤ bm / (Int.gcd am bm : Int) := Int.le_ediv_of_mul_le (by omega) (by omega)
  have hq2 : bm / (Int.gcd am bm : Int) ≤ 2147483647 := by
    have := Int.ediv_le_self (Int.gcd am bm : Int) (show 0 ≤ bm by omega); omega
  obtain ⟨u1, u2, _, _⟩ := isU_bounds HU.out (by omega) (by omega)
  have hM := Lib.hid (fun hd => comb_math ha ham b1 HU.out ((br - ar) % bm) rfl hd _ rfl)
  have hI := Lib.hid (comb_iff (ar := ar) (am := am) (br := br) (bm := bm))
  have hm0 : 0 ≤ am * (bm / (Int.gcd am bm : Int)) := Int.mul_nonneg (by omega) (by omega)
  have hm1 : am * (bm / (Int.gcd am bm : Int)) ≤ 2147483647 * 2147483647 := Int.mul_le_mul ha2 hq2 (by omega) (by omega)
  have hgap := Lib.hid (show (br - ar) % bm = (br - ar) % bm from rfl)
  have hv1 : 0 ≤ (br - ar) % bm / (Int.gcd am bm : Int) := Int.ediv_nonneg h3 (by omega)
  have hv2 : (br - ar) % bm / (Int.gcd am bm : Int) ≤ 2147483647 := by
    have := Int.ediv_le_self (Int.gcd am bm : Int) h3; omega
  have hv3 : 0 ≤ (br - ar) % bm / (Int.gcd am bm : Int) * u := Int.mul_nonneg hv1 u1
  have hv4 : (br - ar) % bm / (Int.gcd am bm : Int) * u ≤ 2147483647 * 2147483647 := Int.mul_le_mul hv2 u2 u1 (by omega)
  by_cases hd : (Int.gcd am bm : Int) ∣ (br - ar) % bm
  · have hd2 : ((br - ar) % bm) % (Int.gcd am bm : Int) = 0 := Int.emod_eq_zero_of_dvd hd
    have HM := Lib.hid (hM.out hd)
    have HD := Lib.hid (hI.out.1 hd)
    clear hM hI hd
    by_cases hl : 2147483647 < am * (bm / (Int.gcd am bm : Int))
    · go_wp2
      refine bodyPost_ret (v := .tuple #[.agg #[.int .i64 0, .int .i64 0], .int .i64 7]) (by simp [results, Try.results80, go_sem]) rfl ⟨0, 0, 7, rfl, .inr (.inr (.inl ⟨⟨b1, b2⟩, HD.out, hl, rfl, rfl, rfl⟩)), ?_⟩
      repeat' (first | exact Below.refl _ _ | (refine Below.setCell ?_ ?_ _) | (refine below_drewN ?_ _) | (refine Below.alloc ?_ ?_ _))
      all_goals (first | (simp; done) | (simp; omega))
    · have hl2 : am * (bm / (Int.gcd am bm : Int)) ≤ 2147483647 := by omega
      obtain ⟨k1, k2, k3, k4⟩ := HM.out
      have HX := Lib.hid k3
      have HY := Lib.hid k4
      have k5 : 0 ≤ ((br - ar) % bm / (Int.gcd am bm : Int) * u) % (bm / (Int.gcd am bm : Int)) := Int.emod_nonneg _ (by omega)
      have k6 : ((br - ar) % bm / (Int.gcd am bm : Int) * u) % (bm / (Int.gcd am bm : Int)) ≤ 2147483647 := by
        have := Int.emod_lt_of_pos ((br - ar) % bm / (Int.gcd am bm : Int) * u) (show 0 < bm / (Int.gcd am bm : Int) by omega)
        omega
      clear k3 k4 HM
      go_wp2
      refine bodyPost_ret (v := .tuple #[.agg #[.int .i64 (ar + am * ((br - ar) % bm / (Int.gcd am bm : Int) * u % (bm / (Int.gcd am bm : Int)))), .int .i64 (am * (bm / (Int.gcd am bm : Int)))], .int .i64 0]) (by simp [results, Try.results80, go_sem]) rfl ⟨_, _, 0, rfl, .inr (.inr (.inr ⟨⟨b1, b2⟩, hl2, rfl, k1, k2, HX.out, HY.out, rfl⟩)), ?_⟩
      repeat' (first | exact Below.refl _ _ | (refine Below.setCell ?_ ?_ _) | (refine below_drewN ?_ _) | (refine Below.alloc ?_ ?_ _))
      all_goals (first | (simp; done) | (simp; omega))
  · have hd2 : (((br - ar) % bm) % (Int.gcd am bm : Int) == 0) = false := by
      simp
      intro h
      exact hd (Int.dvd_of_emod_eq_zero h)
    have HD := Lib.hid (fun h => hd (hI.out.2 h))
    clear hM hI hd
    go_wp2
    refine bodyPost_ret (v := .tuple #[.agg #[.int .i64 0, .int .i64 0], .int .i64 24]) (by simp [results, Try.results80, go_sem]) rfl ⟨0, 0, 24, rfl, .inr (.inl ⟨⟨b1, b2⟩, HD.out, rfl, rfl, rfl⟩), ?_⟩
    repeat' (first | exact Below.refl _ _ | (refine Below.setCell ?_ ?_ _) | (refine below_drewN ?_ _) | (refine Below.alloc ?_ ?_ _))
    all_goals (first | (simp; done) | (simp; omega))
end Go.Proofs.Ytlagljnhbhnelaa
