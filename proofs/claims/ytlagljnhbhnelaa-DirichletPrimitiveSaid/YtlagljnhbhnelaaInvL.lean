/- The contract of arith's Inverse (out of wip/arith). -/
import Derived.Test.YtlagljnhbhnelaaCuspL
namespace Go.Proofs.Ytlagljnhbhnelaa
open Go.RowKit

theorem tmod_add (a m : Int) (hm : 0 < m) (h : a.tmod m < 0) : a.tmod m + m = a % m := by
  have h0 : ¬ 0 ≤ a := fun h0 => by have := Int.tmod_nonneg m h0; omega
  have hlt := Int.lt_tmod_of_pos a hm
  have e := Int.mul_tdiv_add_tmod a m
  have : a = (a.tmod m + m) + m * (a.tdiv m - 1) := by rw [Int.mul_sub]; omega
  conv => rhs; rw [this, Int.add_mul_emod_self_left]
  exact (Int.emod_eq_of_lt (by omega) (by omega)).symm
theorem tmod_same (a m : Int) (hm : 0 < m) (h : 0 ≤ a.tmod m) : a.tmod m = a % m := by
  have hlt := Int.tmod_lt_of_pos a hm
  have e := Int.mul_tdiv_add_tmod a m
  have : a = a.tmod m + m * a.tdiv m := by omega
  conv => rhs; rw [this, Int.add_mul_emod_self_left]
  exact (Int.emod_eq_of_lt (by omega) (by omega)).symm

/-- What Euclid's algorithm keeps: x and y are the multiples of a by s and t, up to multiples of b; the products add up to b. -/
structure Euc (a b x y s t : Int) : Prop where
  gcd : Int.gcd x y = Int.gcd a b
  ds : b ∣ s * a - x
  dt : b ∣ t * a - y
  sg : s * y * (t * x) ≤ 0
  dt1 : s * y - t * x = b ∨ s * y - t * x = -b
theorem Euc.start (a b : Int) : Euc a b a b 1 0 :=
  ⟨rfl, by simp, by simp, by simp, by simp⟩
theorem tdiv_sign (x y : Int) : 0 ≤ x.tdiv y * y * x := by
  rcases Int.le_total 0 x with hx | hx <;> rcases Int.le_total 0 y with hy | hy
  · exact Int.mul_nonneg (Int.mul_nonneg (Int.tdiv_nonneg hx hy) hy) hx
  · exact Int.mul_nonneg (Int.mul_nonneg_of_nonpos_of_nonpos (Int.tdiv_nonpos_of_nonneg_of_nonpos hx hy) hy) hx
  · have h : x.tdiv y ≤ 0 := by
      have := Int.tdiv_nonneg (a := -x) (b := y) (by omega) hy
      rw [Int.neg_tdiv] at this; omega
    have h2 : x.tdiv y * y ≤ 0 := Int.mul_nonpos_of_nonpos_of_nonneg h hy
    exact Int.mul_nonneg_of_nonpos_of_nonpos h2 hx
  · have h : 0 ≤ x.tdiv y := by
      have := Int.tdiv_nonneg (a := -x) (b := -y) (by omega) (by omega)
      rw [Int.neg_tdiv, Int.tdiv_neg] at this; omega
    have h2 : x.tdiv y * y ≤ 0 := Int.mul_nonpos_of_nonneg_of_nonpos h hy
    exact Int.mul_nonneg_of_nonpos_of_nonpos h2 hx
theorem tmod_sign (x y : Int) : 0 ≤ x.tmod y * x := by
  rcases Int.le_total 0 x with hx | hx
  · exact Int.mul_nonneg (Int.tmod_nonneg y hx) hx
  · have := Int.tmod_nonneg (a := -x) y (by omega)
    rw [Int.neg_tmod] at this
    exact Int.mul_nonneg_of_nonpos_of_nonpos (by omega) hx
theorem Euc.step {a b x y s t : Int} (h : Euc a b x y s t) :
    Euc a b y (x - x.tdiv y * y) t (s - x.tdiv y * t) := by
  have e := Int.mul_tdiv_add_tmod x y
  have hr : x - x.tdiv y * y = x.tmod y := by rw [Int.mul_comm]; omega
  refine ⟨?_, h.dt, ?_, ?_, ?_⟩
  · rw [← h.gcd, show x - x.tdiv y * y = x + y * (-(x.tdiv y)) by rw [Int.mul_neg, Int.mul_comm]; omega]
    rw [Int.gcd_add_mul_left_right, Int.gcd_comm]
  · have : (s - x.tdiv y * t) * a - (x - x.tdiv y * y) = (s * a - x) - x.tdiv y * (t * a - y) := by
      simp only [Int.sub_mul, Int.mul_sub, Int.mul_assoc]; omega
    rw [this]
    exact Int.dvd_sub h.ds (Int.dvd_mul_of_dvd_right h.dt)
  · rw [hr]
    by_cases hx : x = 0
    · subst hx; simp
    · have hxx : 0 < x * x := by
        rcases Int.lt_or_gt_of_ne hx with hx | hx
        · exact Int.mul_pos_of_neg_of_neg hx hx
        · exact Int.mul_pos hx hx
      have h1 := h.sg
      have h2 := tmod_sign x y
      have h3 := tdiv_sign x y
      have k1 : (s * y * (t * x)) * (x.tmod y * x) ≤ 0 := Int.mul_nonpos_of_nonpos_of_nonneg h1 h2
      have k2 : 0 ≤ (x.tdiv y * y * x) * (x.tmod y * x) := Int.mul_nonneg h3 h2
      have k3 : 0 ≤ (t * t) * ((x.tdiv y * y * x) * (x.tmod y * x)) := Int.mul_nonneg (by
        rcases Int.le_total 0 t with ht | ht
        · exact Int.mul_nonneg ht ht
        · exact Int.mul_nonneg_of_nonpos_of_nonpos ht ht) k2
      have e2 : (t * x.tmod y * ((s - x.tdiv y * t) * y)) * (x * x) = (s * y * (t * x)) * (x.tmod y * x) - (t * t) * ((x.tdiv y * y * x) * (x.tmod y * x)) := by grind
      have k4 : (t * x.tmod y * ((s - x.tdiv y * t) * y)) * (x * x) ≤ 0 := by omega
      exact Int.nonpos_of_mul_nonpos_left k4 hxx
  · have e2 : t * (x - x.tdiv y * y) - (s - x.tdiv y * t) * y = -(s * y - t * x) := by grind
    rw [e2]
    rcases h.dt1 with h | h
    · exact .inr (by omega)
    · exact .inl (by omega)

/-- The two products lie between -|b| and |b|. -/
theorem Euc.bound {a b x y s t : Int} (h : Euc a b x y s t) : (s * y).natAbs ≤ b.natAbs ∧ (t * x).natAbs ≤ b.natAbs := by
  have h1 := h.sg
  have h2 := h.dt1
  generalize s * y = p at *
  generalize t * x = q at *
  rcases Int.lt_trichotomy p 0 with hp | hp | hp
  · have hq : 0 ≤ q := by
      rcases Int.lt_or_le q 0 with hq | hq
      · have := Int.mul_pos_of_neg_of_neg hp hq; omega
      · exact hq
    omega
  · omega
  · have hq : q ≤ 0 := by
      rcases Int.lt_or_le 0 q with hq | hq
      · have := Int.mul_pos hp hq; omega
      · exact hq
    omega
theorem natAbs_le_mul {t x : Int} (hx : x ≠ 0) : t.natAbs ≤ (t * x).natAbs := by
  rw [Int.natAbs_mul]
  exact Nat.le_mul_of_pos_right _ (by omega)
theorem Euc.t_le {a b x y s t : Int} (h : Euc a b x y s t) (hx : x ≠ 0) : t.natAbs ≤ b.natAbs := Nat.le_trans (natAbs_le_mul hx) h.bound.2
theorem Euc.s_le {a b x y s t : Int} (h : Euc a b x y s t) (hy : y ≠ 0) : s.natAbs ≤ b.natAbs := Nat.le_trans (natAbs_le_mul hy) h.bound.1
theorem tdiv_mul_le (x y : Int) : (x.tdiv y * y).natAbs ≤ x.natAbs := by
  have e := Int.mul_tdiv_add_tmod x y
  rw [Int.mul_comm] at e
  rcases Int.le_total 0 x with hx | hx
  · have h1 := Int.tmod_nonneg y hx
    have h2 := tdiv_sign x y
    have : 0 ≤ x.tdiv y * y := by
      rcases Int.lt_or_eq_of_le hx with hx | hx
      · exact Int.nonneg_of_mul_nonneg_left h2 hx
      · subst hx; simp
    omega
  · have h1 := Int.tmod_nonneg (a := -x) y (by omega)
    rw [Int.neg_tmod] at h1
    have h2 := tdiv_sign (-x) y
    rw [Int.neg_tdiv] at h2
    have : 0 ≤ -x.tdiv y * y := by
      rcases Int.lt_or_eq_of_le hx with hx | hx
      · exact Int.nonneg_of_mul_nonneg_left h2 (by omega)
      · subst hx; simp
    rw [Int.neg_mul] at this
    omega
theorem Euc.qt_le {a b x y s t : Int} (h : Euc a b x y s t) (hy : y ≠ 0) : (x.tdiv y * t).natAbs ≤ 2 * b.natAbs := by
  have h1 := h.step.t_le hy
  have h2 := h.s_le hy
  omega
theorem Euc.r_lt {x y : Int} (hy : y ≠ 0) : (x - x.tdiv y * y).natAbs < y.natAbs := by
  have e := Int.mul_tdiv_add_tmod x y
  rw [Int.mul_comm] at e
  have : x - x.tdiv y * y = x.tmod y := by omega
  rw [this, Int.natAbs_tmod]
  exact Nat.mod_lt _ (by omega)

/-- The cofactor that the document determines. -/
structure IsU (a b : Int) (g : Nat) (u : Int) : Prop where
  dvd : b ∣ u * a - g
  lo : 0 ≤ u
  hi : u < (b.natAbs / g : Nat)
theorem IsU.unique {a b : Int} {u v : Int} (hb : b ≠ 0) (h : IsU a b (Int.gcd a b) u) (k : IsU a b (Int.gcd a b) v) : u = v := by
  have hg : 0 < Int.gcd a b := Int.gcd_pos_of_ne_zero_right a hb
  obtain ⟨a', ha⟩ := Int.gcd_dvd_left a b
  obtain ⟨b', hb'⟩ := Int.gcd_dvd_right a b
  have hd : b ∣ (u - v) * a := by
    have := Int.dvd_sub h.dvd k.dvd
    rwa [show (u * a - (Int.gcd a b : Int)) - (v * a - (Int.gcd a b : Int)) = (u - v) * a by rw [Int.sub_mul]; omega] at this
  have hc : Int.gcd a' b' = 1 := by
    have e : Int.gcd ((Int.gcd a b : Int) * a') ((Int.gcd a b : Int) * b') = Int.gcd a b * Int.gcd a' b' := by rw [Int.gcd_mul_left]; simp
    rw [← ha, ← hb'] at e
    have : Int.gcd a b * 1 = Int.gcd a b * Int.gcd a' b' := by omega
    exact (Nat.eq_of_mul_eq_mul_left hg this).symm
  have hd2 : b' ∣ (u - v) * a' := by
    have e : (Int.gcd a b : Int) * b' ∣ (Int.gcd a b : Int) * ((u - v) * a') := by
      rw [← hb', show (Int.gcd a b : Int) * ((u - v) * a') = (u - v) * ((Int.gcd a b : Int) * a') by grind, ← ha]
      exact hd
    exact Int.dvd_of_mul_dvd_mul_left (by omega) e
  have hd3 : b' ∣ u - v := by
    rw [← Int.natAbs_dvd_natAbs] at hd2 ⊢
    rw [Int.natAbs_mul] at hd2
    exact Nat.Coprime.dvd_of_dvd_mul_right (by show Nat.gcd _ _ = 1; rw [Nat.gcd_comm]; exact hc) hd2
  have hbn : b.natAbs / Int.gcd a b = b'.natAbs := by
    have : b.natAbs = Int.gcd a b * b'.natAbs := by
      conv => lhs; rw [hb']
      rw [Int.natAbs_mul]; simp
    rw [this]
    exact Nat.mul_div_cancel_left _ hg
  have h1 := h.lo
  have h2 := h.hi
  have k1 := k.lo
  have k2 := k.hi
  rw [hbn] at h2 k2
  have := Nat.eq_zero_of_dvd_of_lt (Int.natAbs_dvd_natAbs.2 hd3) (by omega)
  omega
theorem Euc.final {a b x s t : Int} (h : Euc a b x 0 s t) (hb : b ≠ 0) : (x.natAbs = Int.gcd a b) ∧ IsU a b (Int.gcd a b) ((if x < 0 then -s else s) % ((b.natAbs / Int.gcd a b : Nat) : Int)) := by
  have hx : x.natAbs = Int.gcd a b := by rw [← h.gcd]; simp
  have hg : 0 < Int.gcd a b := Int.gcd_pos_of_ne_zero_right a hb
  have hgb : Int.gcd a b ∣ b.natAbs := Int.ofNat_dvd_left.1 (Int.gcd_dvd_right a b)
  have hm : 0 < b.natAbs / Int.gcd a b := Nat.div_pos (Nat.le_of_dvd (by omega) hgb) hg
  refine ⟨hx, ?_, Int.emod_nonneg _ (by omega), Int.emod_lt_of_pos _ (by omega)⟩
  have h1 : b ∣ (if x < 0 then -s else s) * a - (Int.gcd a b : Int) := by
    have hd := h.ds
    split
    · have e : -s * a - (Int.gcd a b : Int) = -(s * a - x) := by rw [Int.neg_mul]; omega
      rw [e]
      exact Int.dvd_neg.2 hd
    · have e : (Int.gcd a b : Int) = x := by omega
      rw [e]
      exact hd
  generalize (if x < 0 then -s else s) = s1 at *
  obtain ⟨a', ha⟩ := Int.gcd_dvd_left a b
  have hmb : ((b.natAbs / Int.gcd a b : Nat) : Int) * (Int.gcd a b : Int) = (b.natAbs : Int) := by
    rw [← Int.natCast_mul, Nat.div_mul_cancel hgb]
  have h2 : b ∣ ((b.natAbs / Int.gcd a b : Nat) : Int) * a := by
    have e : ((b.natAbs / Int.gcd a b : Nat) : Int) * a = (b.natAbs : Int) * a' := by
      rw [← hmb, Int.mul_assoc, ← ha]
    rw [e]
    exact Int.dvd_mul_of_dvd_left (Int.dvd_natAbs_self)
  generalize ((b.natAbs / Int.gcd a b : Nat) : Int) = m at *
  have e : s1 % m * a - (Int.gcd a b : Int) = (s1 * a - (Int.gcd a b : Int)) - (m * a) * (s1 / m) := by
    rw [Int.emod_def]; grind
  rw [e]
  exact Int.dvd_sub h1 (Int.dvd_mul_of_dvd_left h2)
set_option maxHeartbeats 400000 in
theorem residue_any (a m : Int) (w : World) (hm : 1 ≤ m) (hm2 : m ≤ 9223372036854775807) :
    Calls Try.prog 73 #[.int .i64 a, .int .i64 m] w fun e w' => e = .returned (.int .i64 (a % m)) ∧ w = w' := by
  have hlo := Int.lt_tmod_of_pos a (b := m) (by omega)
  go_enter Try.func73, Try.ntmps73
  go_wp2
  · have h : a.tmod m < 0 := by assumption
    go_ret
    exact ⟨ret_int (by rw [← tmod_add a m (by omega) h]), rfl⟩
  · have h : 0 ≤ a.tmod m := by assumption
    go_ret
    exact ⟨ret_int (tmod_same a m (by omega) h), rfl⟩

theorem inRange_yes (n : Int) (w : World) (h1 : 1 ≤ n) (h2 : n ≤ 2147483647) :
    Calls Try.prog 78 #[.int .i64 n] w fun e w' => e = .returned (.bool true) ∧ w = w' := by
  go_enter Try.func78, Try.ntmps78
  go_wp2
  go_ret
  exact ⟨rfl, rfl⟩
/-- The bounds that a round of Euclid's algorithm wants, laid as inequalities. -/
theorem euc_bounds {a b x y s t : Int} (h : Euc a b x y s t) (hy : y ≠ 0) (hb : b.natAbs ≤ 2147483648) (hx : x.natAbs ≤ 2147483648) :
    (-2147483648 ≤ x.tdiv y * y ∧ x.tdiv y * y ≤ 2147483648) ∧ (-4294967296 ≤ x.tdiv y * t ∧ x.tdiv y * t ≤ 4294967296) ∧
    (-2147483648 ≤ s - x.tdiv y * t ∧ s - x.tdiv y * t ≤ 2147483648) ∧ (-2147483648 ≤ x.tdiv y ∧ x.tdiv y ≤ 2147483648) := by
  have h1 := tdiv_mul_le x y
  have h2 := h.qt_le hy
  have h3 := h.step.t_le hy
  have h4 := natAbs_le_mul (t := x.tdiv y) hy
  omega

set_option maxHeartbeats 400000 in
theorem divisor_any (a b : Int) (w : World) (a1 : -2147483648 ≤ a) (a2 : a ≤ 2147483648) (b1 : -2147483648 ≤ b) (b2 : b ≤ 2147483648) (hb : b ≠ 0) :
    Calls Try.prog 83 #[.int .i64 a, .int .i64 b] w fun e w' => ∃ u : Int, e = .returned (.tuple #[.int .i64 (Int.gcd a b), .int .i64 u]) ∧ IsU a b (Int.gcd a b) u ∧ w = w' := by
  go_enter Try.func83, Try.ntmps83
  go_wp2
  go_loop [6, 7, 8, 9, 10] (fun X Y S T _ => ∃ (x y s t : Int), X = .int .i64 x ∧ Y = .int .i64 y ∧ S = .int .i64 s ∧ T = .int .i64 t ∧ Hid (Euc a b x y s t) ∧ (-2147483648 ≤ x ∧ x ≤ 2147483648) ∧ (-2147483648 ≤ y ∧ y ≤ 2147483648) ∧ (-2147483648 ≤ s ∧ s ≤ 2147483648) ∧ (-2147483648 ≤ t ∧ t ≤ 2147483648)) (fun _ Y _ _ _ => (intOf Y).natAbs)
  case atStart => exact ⟨a, b, 1, 0, rfl, rfl, rfl, rfl, Euc.start a b, by omega, by omega, by omega, by omega⟩
  case round =>
    obtain ⟨x, y, s, t, rfl, rfl, rfl, rfl, HE, ⟨x1, x2⟩, ⟨y1, y2⟩, ⟨s1, s2⟩, ⟨t1, t2⟩⟩ := hrel
    by_cases hz : y = 0
    · subst hz
      have HF := Lib.hid (HE.out.final hb)
      have hxg : x.natAbs = Int.gcd a b := HF.out.1
      have hg0 : 0 < Int.gcd a b := Int.gcd_pos_of_ne_zero_right a hb
      have HX := Lib.hid hxg
      have hq1 : 1 ≤ (b.natAbs : Int) / (Int.gcd a b : Int) := by
        have : Int.gcd a b ≤ b.natAbs := Nat.le_of_dvd (by omega) (Int.ofNat_dvd_left.1 (Int.gcd_dvd_right a b))
        have := Nat.div_pos this hg0
        rw [← Int.natCast_ediv]; omega
      have hq2 : (b.natAbs : Int) / (Int.gcd a b : Int) ≤ 2147483648 := by
        have := Nat.div_le_self b.natAbs (Int.gcd a b)
        rw [← Int.natCast_ediv]; omega
      by_cases hx : x < 0
      · obtain rfl : x = -(Int.gcd a b : Int) := by omega
        have hgle : (Int.gcd a b : Int) ≤ 2147483648 := by omega
        clear hxg
        go_wp2_with (first | (go_at_call 71; ((with_reducible refine (absolute_any b _ (mid_of (by omega) (by omega))).mono ?_); rintro e w' ⟨rfl, rfl⟩)) | (go_at_call 73; ((with_reducible refine (residue_any _ _ _ ?_ ?_).mono ?_); rotate_left 2; rintro e w' ⟨rfl, rfl⟩)))
        all_goals (try omega)
        go_ret2
        exact ⟨_, rfl, by have := HF.out.2; rwa [if_pos (by omega), Int.natCast_ediv] at this, rfl⟩
      · obtain rfl : x = (Int.gcd a b : Int) := by omega
        have hgle : (Int.gcd a b : Int) ≤ 2147483648 := by omega
        clear hxg
        go_wp2_with (first | (go_at_call 71; ((with_reducible refine (absolute_any b _ (mid_of (by omega) (by omega))).mono ?_); rintro e w' ⟨rfl, rfl⟩)) | (go_at_call 73; ((with_reducible refine (residue_any _ _ _ ?_ ?_).mono ?_); rotate_left 2; rintro e w' ⟨rfl, rfl⟩)))
        all_goals (try omega)
        go_ret2
        exact ⟨_, rfl, by have := HF.out.2; rwa [if_neg (by omega), Int.natCast_ediv] at this, rfl⟩
    · obtain ⟨⟨h1, h2⟩, ⟨h3, h4⟩, ⟨h5, h6⟩, ⟨h7, h8⟩⟩ := euc_bounds HE.out hz (by omega) (by omega)
      have hy0 : (y == 0) = false := by simpa using hz
      have hr := Euc.r_lt (x := x) hz
      go_wp2
      go_round
      case rel => exact ⟨y, x - x.tdiv y * y, t, s - x.tdiv y * t, rfl, rfl, rfl, rfl, HE.out.step, by omega, by omega, by omega, by omega⟩
      case measure => simp [intOf]; omega

/-- The inverse modulo m: the residue, or 'not coprime'. -/
def InvIs (a m u e : Int) : Prop := (Int.gcd (a % m) m = 1 ∧ e = 0 ∧ IsU (a % m) m 1 u) ∨ (Int.gcd (a % m) m ≠ 1 ∧ e = 9 ∧ u = 0)
theorem inverse_yes (a m : Int) (w : World) (m1 : 1 ≤ m) (m2 : m ≤ 2147483647) :
    Calls Try.prog 84 #[.int .i64 a, .int .i64 m] w fun e w' => ∃ u e0 : Int, e = .returned (.tuple #[.int .i64 u, .int .i64 e0]) ∧ InvIs a m u e0 ∧ w = w' := by
  have h1 := Int.emod_nonneg a (show m ≠ 0 by omega)
  have h2 := Int.emod_lt_of_pos a (show 0 < m by omega)
  have HD := Lib.hid (fun W => divisor_any (a % m) m W (by omega) (by omega) (by omega) (by omega) (by omega))
  by_cases hg : Int.gcd (a % m) m = 1
  · have HG := Lib.hid hg
    rw [hg] at HD
    clear hg
    go_enter Try.func84, Try.ntmps84
    go_wp2_with (first
      | (go_at_call 78; ((with_reducible refine (inRange_yes _ _ m1 m2).mono ?_); rintro e w' ⟨rfl, rfl⟩))
      | (go_at_call 73; ((with_reducible refine (residue_any _ _ _ m1 (by omega)).mono ?_); rintro e w' ⟨rfl, rfl⟩))
      | (go_at_call 83; ((with_reducible refine (HD.out _).mono ?_); rintro e w' ⟨u, rfl, hu, rfl⟩; have HU := Lib.hid hu; clear hu)))
    go_ret2
    exact ⟨_, _, rfl, .inl ⟨HG.out, rfl, HU.out⟩, rfl⟩
  · have HG := Lib.hid hg
    have hg2 : ((Int.gcd (a % m) m : Int) != 1) = true := by rw [bne_iff_ne]; omega
    clear hg
    go_enter Try.func84, Try.ntmps84
    go_wp2_with (first
      | (go_at_call 78; ((with_reducible refine (inRange_yes _ _ m1 m2).mono ?_); rintro e w' ⟨rfl, rfl⟩))
      | (go_at_call 73; ((with_reducible refine (residue_any _ _ _ m1 (by omega)).mono ?_); rintro e w' ⟨rfl, rfl⟩))
      | (go_at_call 83; ((with_reducible refine (HD.out _).mono ?_); rintro e w' ⟨u, rfl, hu, rfl⟩; clear hu)))
    go_ret2
    exact ⟨_, _, rfl, .inr ⟨HG.out, rfl, rfl⟩, rfl⟩
end Go.Proofs.Ytlagljnhbhnelaa
