/- Contracts of the functions on integers alone (arith, halfplaneref03): no memory is touched. -/
import Derived.Test.YtoeailhcobbhjaaRows
import Derived.Test.YtoeailhcobbhjaaNums
import Derived.WalkKit
import Derived.WalkSpells
import Derived.WalkLawsBesides
import Derived.Lib.Hide
import Derived.Deep.QuietTactic
import Derived.BigQuiet
namespace Go.Proofs.Ytoeailhcobbhjaa
open Go.RowKit

theorem ret_int {k : IntKind} {a b : Int} (h : a = b) : Ending.returned (.int k a) = .returned (.int k b) := by rw [h]

set_option maxHeartbeats 400000 in
theorem absolute_any (n : Int) (w : World) (h1 : -9223372036854775808 ≤ n) (h2 : n ≤ 9223372036854775807) :
    Calls Try.prog 56 #[.int .i64 n] w fun e w' => e = .returned (.int .u64 (n.natAbs : Int)) ∧ w = w' := by
  by_cases h : n < 0
  · go_enter Try.func56, Try.ntmps56
    go_wp2
    go_ret
    exact ⟨ret_int (by simp [IntKind.wrap, IntKind.bits, IntKind.signed]; omega), rfl⟩
  · go_enter Try.func56, Try.ntmps56
    go_wp2
    go_ret
    exact ⟨ret_int (by omega), rfl⟩

set_option maxHeartbeats 400000 in
theorem residue_any (a m : Int) (w : World) (hm : 1 ≤ m) (hm2 : m ≤ 9223372036854775807) :
    Calls Try.prog 71 #[.int .i64 a, .int .i64 m] w fun e w' => e = .returned (.int .i64 (a % m)) ∧ w = w' := by
  have hlo := Int.lt_tmod_of_pos a (b := m) (by omega)
  go_enter Try.func71, Try.ntmps71
  go_wp2
  · have h : a.tmod m < 0 := by assumption
    go_ret
    exact ⟨ret_int (by rw [← tmod_add a m (by omega) h]), rfl⟩
  · have h : 0 ≤ a.tmod m := by assumption
    go_ret
    exact ⟨ret_int (tmod_same a m (by omega) h), rfl⟩

set_option maxHeartbeats 400000 in
theorem refMod_any (a m : Int) (w : World) (hm : 1 ≤ m) (hm2 : m ≤ 9223372036854775807) :
    Calls Try.prog 50 #[.int .i64 a, .int .i64 m] w fun e w' => e = .returned (.int .i64 (a % m)) ∧ w = w' := by
  have hlo := Int.lt_tmod_of_pos a (b := m) (by omega)
  go_enter Try.func50, Try.ntmps50
  go_wp2
  · have h : a.tmod m < 0 := by assumption
    go_ret
    exact ⟨ret_int (by rw [← tmod_add a m (by omega) h]), rfl⟩
  · have h : 0 ≤ a.tmod m := by assumption
    go_ret
    exact ⟨ret_int (tmod_same a m (by omega) h), rfl⟩

theorem inRange_yes (n : Int) (w : World) (h1 : 1 ≤ n) (h2 : n ≤ 2147483647) :
    Calls Try.prog 59 #[.int .i64 n] w fun e w' => e = .returned (.bool true) ∧ w = w' := by
  go_enter Try.func59, Try.ntmps59
  go_wp2
  go_ret
  exact ⟨rfl, rfl⟩
theorem inRange_no (n : Int) (w : World) (h : n < 1 ∨ 2147483647 < n) :
    Calls Try.prog 59 #[.int .i64 n] w fun e w' => e = .returned (.bool false) ∧ w = w' := by
  by_cases h1 : n < 1
  · have hb : decide (1 ≤ n) = false := by simpa using h1
    go_enter Try.func59, Try.ntmps59
    go_wp2
    go_ret
    exact ⟨rfl, rfl⟩
  · have h2 : 2147483647 < n := by omega
    have h3 : 1 ≤ n := by omega
    clear h
    go_enter Try.func59, Try.ntmps59
    go_wp2
    go_ret
    exact ⟨by simp; omega, rfl⟩
theorem refInRange_yes (n : Int) (w : World) (h1 : 1 ≤ n) (h2 : n ≤ 2147483647) :
    Calls Try.prog 27 #[.int .i64 n] w fun e w' => e = .returned (.bool true) ∧ w = w' := by
  go_enter Try.func27, Try.ntmps27
  go_wp2
  go_ret
  exact ⟨rfl, rfl⟩
theorem refInRange_no (n : Int) (w : World) (h : n < 1 ∨ 2147483647 < n) :
    Calls Try.prog 27 #[.int .i64 n] w fun e w' => e = .returned (.bool false) ∧ w = w' := by
  by_cases h1 : n < 1
  · have hb : decide (1 ≤ n) = false := by simpa using h1
    go_enter Try.func27, Try.ntmps27
    go_wp2
    go_ret
    exact ⟨rfl, rfl⟩
  · have h2 : 2147483647 < n := by omega
    have h3 : 1 ≤ n := by omega
    clear h
    go_enter Try.func27, Try.ntmps27
    go_wp2
    go_ret
    exact ⟨by simp; omega, rfl⟩

theorem results_tmp4 {fn : Func} {t u v x : Tmp} (h : fn.results = #[.tmp t, .tmp u, .tmp v, .tmp x]) (tmps : Array Value) (P : Program) (w : World) :
    (results fn tmps).run P w = .ok (.tuple #[tmps.getD t undef, tmps.getD u undef, tmps.getD v undef, tmps.getD x undef]) w := by simp [results, h]
theorem natmod_cast (x y : Nat) : ((x : Int) % (y : Int)) = ((x % y : Nat) : Int) := (Int.natCast_emod x y).symm

/-- A magnitude of a machine integer. -/
def Mag (p : Nat) : Prop := p ≤ 9223372036854775808
theorem mag_of (a : Int) (a1 : -9223372036854775808 ≤ a) (a2 : a ≤ 9223372036854775807) : Mag a.natAbs := by unfold Mag; omega
theorem mag_mod {p q : Nat} (hq : Mag q) (h : 0 < q) : Mag (p % q) := by
  have := Nat.mod_lt p h
  unfold Mag at *; omega
/-- The answer of both: 0 where the greatest common divisor is no machine integer. -/
def gcdI (a b : Int) : Int := if Int.gcd a b = 9223372036854775808 then 0 else (Int.gcd a b : Int)

theorem gcd_out1 {p : Nat} {a b : Int} (h : Nat.gcd p 0 = Int.gcd a b) (hp : ((p : Int) == 9223372036854775808) = true) : (0 : Int) = gcdI a b := by
  have e : (p : Int) = 9223372036854775808 := by simpa using hp
  rw [Nat.gcd_zero_right] at h
  unfold gcdI
  rw [if_pos (by omega)]
theorem gcd_out2 {p : Nat} {a b : Int} (h : Nat.gcd p 0 = Int.gcd a b) (hp : ((p : Int) == 9223372036854775808) = false) (hm : Mag p) : wrap64 (p : Int) = gcdI a b := by
  have e : (p : Int) ≠ 9223372036854775808 := by simpa using hp
  rw [Nat.gcd_zero_right] at h
  unfold Mag at hm
  unfold gcdI
  rw [if_neg (by omega), ← h]
  exact IntWalk.wrap64_in _ (by omega)
theorem gcd_next {p q n : Nat} (h : Nat.gcd p q = n) : Hid (Nat.gcd q (p % q) = n) := by
  show _ = _
  rw [← h, Nat.gcd_comm q, ← Nat.gcd_rec q p, Nat.gcd_comm]
theorem ret_nat (p q : Nat) : Value.int .u64 ((p : Int) % (q : Int)) = .int .u64 ((p % q : Nat) : Int) := by rw [natmod_cast]

set_option maxHeartbeats 400000 in
theorem gcd_any (a b : Int) (w : World) (a1 : -9223372036854775808 ≤ a) (a2 : a ≤ 9223372036854775807) (b1 : -9223372036854775808 ≤ b) (b2 : b ≤ 9223372036854775807) :
    Calls Try.prog 18 #[.int .i64 a, .int .i64 b] w fun e w' => e = .returned (.int .i64 (gcdI a b)) ∧ ∃ n, w' = w.drewN n := by
  have A1 := mag_of a a1 a2
  have B1 := mag_of b b1 b2
  go_enter Try.func18, Try.ntmps18
  go_wp2_with fail
  refine (absolute_any a _ a1 a2).mono ?_
  rintro e w' ⟨rfl, rfl⟩
  go_wp2_with fail
  refine (absolute_any b _ b1 b2).mono ?_
  rintro e w' ⟨rfl, rfl⟩
  clear a1 a2 b1 b2
  go_wp2_with fail
  go_loopw [5, 6] (fun x y wr => ∃ (p q : Nat), x = .int .u64 p ∧ y = .int .u64 q ∧ Mag p ∧ Mag q ∧ Hid (Nat.gcd p q = Int.gcd a b) ∧ ∃ n, wr = w.drewN n) (fun _ y _ => (intOf y).toNat)
  case atStart => exact ⟨a.natAbs, b.natAbs, rfl, rfl, A1, B1, rfl, 0, rfl⟩
  case round =>
    obtain ⟨p, q, rfl, rfl, hp, hq, HG, n, rfl⟩ := hrel
    by_cases hz : q = 0
    · subst hz
      go_wp2
      · have h : ((p : Int) == 9223372036854775808) = true := by assumption
        go_ret
        exact ⟨ret_int (gcd_out1 HG.out h), n, rfl⟩
      · have h : ((p : Int) == 9223372036854775808) = false := by assumption
        go_ret
        exact ⟨ret_int (gcd_out2 HG.out h hp), n, rfl⟩
    · have hq0 : 0 < (q : Int) := by omega
      have hq1 : 1 ≤ (q : Int) := by omega
      have hmod := mag_mod (p := p) hq (by omega)
      have hlt := Nat.mod_lt p (show 0 < q by omega)
      go_wp2
      go_quiet (fail)
      go_wp2
      go_roundw
      case rel => exact ⟨q, p % q, rfl, ret_nat _ _, hq, hmod, gcd_next HG.out, _, by rw [World.drewN_drewN]⟩
      case measure => simp [intOf]; omega
theorem u64_neg {a : Int} (h : a < 0) (a1 : -9223372036854775808 ≤ a) : IntKind.u64.wrap (-IntKind.u64.wrap a) = (a.natAbs : Int) := by
  simp [IntKind.wrap, IntKind.bits, IntKind.signed]; omega
theorem u64_pos {a : Int} (h : 0 ≤ a) (a1 : a ≤ 9223372036854775807) : IntKind.u64.wrap a = (a.natAbs : Int) := by
  simp [IntKind.wrap, IntKind.bits, IntKind.signed]; omega
theorem gcd_out3 {p : Nat} {a b : Int} (h : Nat.gcd p 0 = Int.gcd a b) (hp : (9223372036854775807 : Int) < (p : Int)) (hm : Mag p) : (0 : Int) = gcdI a b := by
  rw [Nat.gcd_zero_right] at h
  unfold Mag at hm
  unfold gcdI
  rw [if_pos (by omega)]
theorem gcd_out4 {p : Nat} {a b : Int} (h : Nat.gcd p 0 = Int.gcd a b) (hp : (p : Int) ≤ 9223372036854775807) : (p : Int) = gcdI a b := by
  rw [Nat.gcd_zero_right] at h
  unfold gcdI
  rw [if_neg (by omega), ← h]

set_option maxHeartbeats 400000 in
theorem refGcd_any (a b : Int) (w : World) (a1 : -9223372036854775808 ≤ a) (a2 : a ≤ 9223372036854775807) (b1 : -9223372036854775808 ≤ b) (b2 : b ≤ 9223372036854775807) :
    Calls Try.prog 19 #[.int .i64 a, .int .i64 b] w fun e w' => e = .returned (.int .i64 (gcdI a b)) ∧ w = w' := by
  have A1 := mag_of a a1 a2
  have B1 := mag_of b b1 b2
  have AN := fun h => Lib.hid (u64_neg (a := a) h a1)
  have BN := fun h => Lib.hid (u64_neg (a := b) h b1)
  have AP := fun h => Lib.hid (u64_pos (a := a) h a2)
  have BP := fun h => Lib.hid (u64_pos (a := b) h b2)
  clear a1 a2 b1 b2
  by_cases ha : a < 0 <;> by_cases hb : b < 0
  all_goals
    go_enter Try.func19, Try.ntmps19
    go_wp2
    go_loop [5, 6, 7] (fun x y _ => ∃ (p q : Nat), x = .int .u64 p ∧ y = .int .u64 q ∧ Mag p ∧ Mag q ∧ Hid (Nat.gcd p q = Int.gcd a b)) (fun _ y _ => (intOf y).toNat)
    case atStart =>
      refine ⟨a.natAbs, b.natAbs, congrArg _ ?_, congrArg _ ?_, A1, B1, rfl⟩
      · first | exact (AN (by omega)).out | exact (AP (by omega)).out
      · first | exact (BN (by omega)).out | exact (BP (by omega)).out
    case round =>
      clear AN BN AP BP
      obtain ⟨p, q, rfl, rfl, hp, hq, HG⟩ := hrel
      by_cases hz : q = 0
      · subst hz
        go_wp2
        · have h : 9223372036854775807 < (p : Int) := by assumption
          go_ret
          exact ⟨ret_int (gcd_out3 HG.out h hp), rfl⟩
        · have h : (p : Int) ≤ 9223372036854775807 := by assumption
          go_ret
          exact ⟨ret_int (gcd_out4 HG.out h), rfl⟩
      · have hq0 : 0 < (q : Int) := by omega
        have hq1 : 1 ≤ (q : Int) := by omega
        have hmod := mag_mod (p := p) hq (by omega)
        have hlt := Nat.mod_lt p (show 0 < q by omega)
        go_wp2
        go_round
        case rel => exact ⟨q, p % q, rfl, ret_nat _ _, hq, hmod, gcd_next HG.out⟩
        case measure => simp [intOf]; omega

/-- The bounds that a round of Euclid's algorithm wants, laid as inequalities. -/
theorem euc_bounds {a b x y s t : Int} (h : Euc a b x y s t) (hy : y ≠ 0) (hb : b.natAbs ≤ 2147483648) (hx : x.natAbs ≤ 2147483648) :
    (-2147483648 ≤ x.tdiv y * y ∧ x.tdiv y * y ≤ 2147483648) ∧ (-4294967296 ≤ x.tdiv y * t ∧ x.tdiv y * t ≤ 4294967296) ∧
    (-2147483648 ≤ s - x.tdiv y * t ∧ s - x.tdiv y * t ≤ 2147483648) ∧ (-2147483648 ≤ x.tdiv y ∧ x.tdiv y ≤ 2147483648) := by
  have h1 := tdiv_mul_le x y
  have h2 := h.qt_le hy
  have h3 := h.step.t_le hy
  have h4 := natAbs_le_mul (t := x.tdiv y) hy
  omega

set_option maxHeartbeats 400000 in
theorem divisor_any (a b : Int) (w : World) (a1 : -2147483648 ≤ a) (a2 : a ≤ 2147483648) (b1 : -2147483648 ≤ b) (b2 : b ≤ 2147483648) (hb : b ≠ 0) :
    Calls Try.prog 57 #[.int .i64 a, .int .i64 b] w fun e w' => ∃ u : Int, e = .returned (.tuple #[.int .i64 (Int.gcd a b), .int .i64 u]) ∧ IsU a b (Int.gcd a b) u ∧ w = w' := by
  go_enter Try.func57, Try.ntmps57
  go_wp2
  go_loop [6, 7, 8, 9, 10] (fun X Y S T _ => ∃ (x y s t : Int), X = .int .i64 x ∧ Y = .int .i64 y ∧ S = .int .i64 s ∧ T = .int .i64 t ∧ Hid (Euc a b x y s t) ∧ (-2147483648 ≤ x ∧ x ≤ 2147483648) ∧ (-2147483648 ≤ y ∧ y ≤ 2147483648) ∧ (-2147483648 ≤ s ∧ s ≤ 2147483648) ∧ (-2147483648 ≤ t ∧ t ≤ 2147483648)) (fun _ Y _ _ _ => (intOf Y).natAbs)
  case atStart => exact ⟨a, b, 1, 0, rfl, rfl, rfl, rfl, Euc.start a b, by omega, by omega, by omega, by omega⟩
  case round =>
    obtain ⟨x, y, s, t, rfl, rfl, rfl, rfl, HE, ⟨x1, x2⟩, ⟨y1, y2⟩, ⟨s1, s2⟩, ⟨t1, t2⟩⟩ := hrel
    by_cases hz : y = 0
    · subst hz
      have HF := Lib.hid (HE.out.final hb)
      have hxg : x.natAbs = Int.gcd a b := HF.out.1
      have hg0 : 0 < Int.gcd a b := Int.gcd_pos_of_ne_zero_right a hb
      have HX := Lib.hid hxg
      have hq1 : 1 ≤ (b.natAbs : Int) / (Int.gcd a b : Int) := by
        have : Int.gcd a b ≤ b.natAbs := Nat.le_of_dvd (by omega) (Int.ofNat_dvd_left.1 (Int.gcd_dvd_right a b))
        have := Nat.div_pos this hg0
        rw [← Int.natCast_ediv]; omega
      have hq2 : (b.natAbs : Int) / (Int.gcd a b : Int) ≤ 2147483648 := by
        have := Nat.div_le_self b.natAbs (Int.gcd a b)
        rw [← Int.natCast_ediv]; omega
      by_cases hx : x < 0
      · obtain rfl : x = -(Int.gcd a b : Int) := by omega
        have hgle : (Int.gcd a b : Int) ≤ 2147483648 := by omega
        clear hxg
        go_wp2_with (first | (go_at_call 56; ((with_reducible refine (absolute_any b _ (by omega) (by omega)).mono ?_); rintro e w' ⟨rfl, rfl⟩)) | (go_at_call 71; ((with_reducible refine (residue_any _ _ _ ?_ ?_).mono ?_); rotate_left 2; rintro e w' ⟨rfl, rfl⟩)))
        all_goals (try omega)
        go_ret2
        exact ⟨_, rfl, by have := HF.out.2; rwa [if_pos (by omega), Int.natCast_ediv] at this, rfl⟩
      · obtain rfl : x = (Int.gcd a b : Int) := by omega
        have hgle : (Int.gcd a b : Int) ≤ 2147483648 := by omega
        clear hxg
        go_wp2_with (first | (go_at_call 56; ((with_reducible refine (absolute_any b _ (by omega) (by omega)).mono ?_); rintro e w' ⟨rfl, rfl⟩)) | (go_at_call 71; ((with_reducible refine (residue_any _ _ _ ?_ ?_).mono ?_); rotate_left 2; rintro e w' ⟨rfl, rfl⟩)))
        all_goals (try omega)
        go_ret2
        exact ⟨_, rfl, by have := HF.out.2; rwa [if_neg (by omega), Int.natCast_ediv] at this, rfl⟩
    · obtain ⟨⟨h1, h2⟩, ⟨h3, h4⟩, ⟨h5, h6⟩, ⟨h7, h8⟩⟩ := euc_bounds HE.out hz (by omega) (by omega)
      have hy0 : (y == 0) = false := by simpa using hz
      have hr := Euc.r_lt (x := x) hz
      go_wp2
      go_round
      case rel => exact ⟨y, x - x.tdiv y * y, t, s - x.tdiv y * t, rfl, rfl, rfl, rfl, HE.out.step, by omega, by omega, by omega, by omega⟩
      case measure => simp [intOf]; omega

/-- The contract of Xgcd: the three numbers, or the error. -/
def XgcdIs (a b g u v : Int) : Prop := (b ≠ 0 ∧ g = (Int.gcd a b : Int) ∧ IsU a b (Int.gcd a b) u ∧ v = (g - u * a).tdiv b) ∨ (b = 0 ∧ g = (a.natAbs : Int) ∧ u = a.sign ∧ v = 0)
theorem XgcdIs.unique {a b g u v g' u' v' : Int} (h : XgcdIs a b g u v) (k : XgcdIs a b g' u' v') : g = g' ∧ u = u' ∧ v = v' := by
  rcases h with ⟨hb, rfl, hu, rfl⟩ | ⟨hb, rfl, rfl, rfl⟩
  · rcases k with ⟨_, rfl, ku, rfl⟩ | ⟨hb', _⟩
    · have := IsU.unique hb hu ku
      subst this
      exact ⟨rfl, rfl, rfl⟩
    · exact absurd hb' hb
  · rcases k with ⟨hb', _⟩ | ⟨_, rfl, rfl, rfl⟩
    · exact absurd hb hb'
    · exact ⟨rfl, rfl, rfl⟩

theorem isU_bounds {a b u : Int} (h : IsU a b (Int.gcd a b) u) (hb : b.natAbs ≤ 2147483647) (ha : a.natAbs ≤ 2147483647) : 0 ≤ u ∧ u ≤ 2147483647 ∧ (-4611686014132420609 ≤ u * a ∧ u * a ≤ 4611686014132420609) ∧ (Int.gcd a b : Int) ≤ 2147483647 := by
  have h1 := h.lo
  have h2 := h.hi
  have h3 := Nat.div_le_self b.natAbs (Int.gcd a b)
  have hu : u.natAbs ≤ 2147483647 := by omega
  have h4 : (u * a).natAbs ≤ 2147483647 * 2147483647 := by
    rw [Int.natAbs_mul]; exact Nat.mul_le_mul hu ha
  have h5 : Int.gcd a b ≤ 2147483647 := by
    by_cases hz : b = 0
    · subst hz; simp; exact ha
    · have : Int.gcd a b ≤ b.natAbs := Nat.le_of_dvd (by omega) (Int.ofNat_dvd_left.1 (Int.gcd_dvd_right a b))
      omega
  omega

theorem tdiv_bounds (p b : Int) (h : -4611686016279904256 ≤ p) (k : p ≤ 4611686016279904256) : -4611686016279904256 ≤ p.tdiv b ∧ p.tdiv b ≤ 4611686016279904256 := by
  have h1 : (p.tdiv b).natAbs ≤ p.natAbs := by rw [Int.natAbs_tdiv]; exact Nat.div_le_self _ _
  omega
set_option maxHeartbeats 400000 in
theorem xgcd_zero (a : Int) (w : World) (a1 : -2147483647 ≤ a) (a2 : a ≤ 2147483647) :
    Calls Try.prog 16 #[.int .i64 a, .int .i64 0] w fun e w' => ∃ g u v : Int, e = .returned (.tuple #[.int .i64 g, .int .i64 u, .int .i64 v, .int .i64 0]) ∧ XgcdIs a 0 g u v ∧ ∃ n, w' = w.drewN n := by
  have HX : ∀ g u : Int, g = (a.natAbs : Int) → u = a.sign → XgcdIs a 0 g u 0 := fun g u hg hu => .inr ⟨rfl, hg, hu, rfl⟩
  rcases Int.lt_trichotomy a 0 with h | h | h
  · have HY := Lib.hid (HX (-a) (-1) (by omega) (Int.sign_eq_neg_one_of_neg h).symm)
    clear HX
    go_enter Try.func16, Try.ntmps16
    go_wp2_with (first | (go_at_call 56; ((with_reducible refine (absolute_any _ _ (by omega) (by omega)).mono ?_); rintro e w' ⟨rfl, rfl⟩)))
    refine bodyPost_ret (results_tmp4 rfl _ _ _) rfl ⟨_, _, _, rfl, HY.out, 0, rfl⟩
  · subst h
    have HY := Lib.hid (HX 0 0 rfl rfl)
    clear HX
    go_enter Try.func16, Try.ntmps16
    go_wp2_with (first | (go_at_call 56; ((with_reducible refine (absolute_any _ _ (by omega) (by omega)).mono ?_); rintro e w' ⟨rfl, rfl⟩)))
    refine bodyPost_ret (results_tmp4 rfl _ _ _) rfl ⟨_, _, _, rfl, HY.out, 0, rfl⟩
  · have HY := Lib.hid (HX a 1 (by omega) (Int.sign_eq_one_of_pos h).symm)
    clear HX
    have h0 : (a == 0) = false := by simp; omega
    go_enter Try.func16, Try.ntmps16
    go_wp2_with (first | (go_at_call 56; ((with_reducible refine (absolute_any _ _ (by omega) (by omega)).mono ?_); rintro e w' ⟨rfl, rfl⟩)))
    refine bodyPost_ret (results_tmp4 rfl _ _ _) rfl ⟨_, _, _, rfl, HY.out, 0, rfl⟩
set_option maxHeartbeats 400000 in
theorem xgcd_any (a b : Int) (w : World) (a1 : -2147483647 ≤ a) (a2 : a ≤ 2147483647) (b1 : -2147483647 ≤ b) (b2 : b ≤ 2147483647) (hb : b ≠ 0) :
    Calls Try.prog 16 #[.int .i64 a, .int .i64 b] w fun e w' => ∃ g u v : Int, e = .returned (.tuple #[.int .i64 g, .int .i64 u, .int .i64 v, .int .i64 0]) ∧ XgcdIs a b g u v ∧ ∃ n, w' = w.drewN n := by
  have hb0 : (b == 0) = false := by simpa using hb
  have ha : a.natAbs ≤ 2147483647 := by omega
  have hbn : b.natAbs ≤ 2147483647 := by omega
  go_enter Try.func16, Try.ntmps16
  go_wp2_with (first | (go_at_call 56; ((with_reducible refine (absolute_any _ _ (by omega) (by omega)).mono ?_); rintro e w' ⟨rfl, rfl⟩)) | (go_at_call 57; ((with_reducible refine (divisor_any a b _ (by omega) (by omega) (by omega) (by omega) hb).mono ?_); rintro e w' ⟨u, rfl, HU0, rfl⟩; have HU := Lib.hid HU0; clear HU0)))
  obtain ⟨u1, u2, ⟨u3, u4⟩, u5⟩ := isU_bounds HU.out hbn ha
  obtain ⟨u6, u7⟩ := tdiv_bounds ((Int.gcd a b : Int) - u * a) b (by omega) (by omega)
  go_quiet (fail)
  go_wp2
  refine bodyPost_ret (results_tmp4 rfl _ _ _) rfl ⟨_, _, _, rfl, .inl ⟨hb, rfl, HU.out, rfl⟩, _, rfl⟩
set_option maxHeartbeats 400000 in
theorem xgcd_no (a b : Int) (w : World) (a1 : -9223372036854775808 ≤ a) (a2 : a ≤ 9223372036854775807) (b1 : -9223372036854775808 ≤ b) (b2 : b ≤ 9223372036854775807)
    (h : a < -2147483647 ∨ 2147483647 < a ∨ b < -2147483647 ∨ 2147483647 < b) :
    Calls Try.prog 16 #[.int .i64 a, .int .i64 b] w fun e w' => e = .returned (.tuple #[.int .i64 0, .int .i64 0, .int .i64 0, .int .i64 2]) ∧ w = w' := by
  have hA := absolute_any a w a1 a2
  have hB := absolute_any b w b1 b2
  have HA := Lib.hid hA
  have HB := Lib.hid hB
  clear hA hB a1 a2 b1 b2
  by_cases hn : 2147483647 < (a.natAbs : Int)
  · clear h
    go_enter Try.func16, Try.ntmps16
    go_wp2_with (first | (go_at_call 56; ((with_reducible refine HA.out.mono ?_); rintro e w' ⟨rfl, rfl⟩)))
    refine bodyPost_ret (results_tmp4 rfl _ _ _) rfl ⟨rfl, rfl⟩
  · have hm : 2147483647 < (b.natAbs : Int) := by omega
    clear h
    go_enter Try.func16, Try.ntmps16
    go_wp2_with (first | (go_at_call 56; ((with_reducible refine HA.out.mono ?_); rintro e w' ⟨rfl, rfl⟩)) | (go_at_call 56; ((with_reducible refine HB.out.mono ?_); rintro e w' ⟨rfl, rfl⟩)))
    refine bodyPost_ret (results_tmp4 rfl _ _ _) rfl ⟨rfl, rfl⟩

/-- The inverse modulo m: the residue, or 'not coprime'. -/
def InvIs (a m u e : Int) : Prop := (Int.gcd (a % m) m = 1 ∧ e = 0 ∧ IsU (a % m) m 1 u) ∨ (Int.gcd (a % m) m ≠ 1 ∧ e = 9 ∧ u = 0)
theorem euc_pos {x y : Int} (hx : 0 ≤ x) (hy : 0 < y) : 0 ≤ x - x.tdiv y * y ∧ x - x.tdiv y * y < y := by
  have h1 := Euc.r_lt (x := x) (show y ≠ 0 by omega)
  have e := Int.mul_tdiv_add_tmod x y
  have h2 := Int.tmod_nonneg y hx
  rw [Int.mul_comm] at e
  omega

set_option maxHeartbeats 400000 in
theorem refInverse_any (a m : Int) (w : World) (m1 : 1 ≤ m) (m2 : m ≤ 2147483647) :
    Calls Try.prog 45 #[.int .i64 a, .int .i64 m] w fun e w' => ∃ u e0 : Int, e = .returned (.tuple #[.int .i64 u, .int .i64 e0]) ∧ InvIs a m u e0 ∧ w = w' := by
  have r1 := Int.emod_nonneg a (show m ≠ 0 by omega)
  have r2 := Int.emod_lt_of_pos a (show 0 < m by omega)
  go_enter Try.func45, Try.ntmps45
  go_wp2_with (first | (go_at_call 27; ((with_reducible refine (refInRange_yes _ _ m1 m2).mono ?_); rintro e w' ⟨rfl, rfl⟩)) | (go_at_call 50; ((with_reducible refine (refMod_any _ _ _ m1 (by omega)).mono ?_); rintro e w' ⟨rfl, rfl⟩)))
  go_loop [6, 7, 8, 9, 10] (fun X Y S T _ => ∃ (x y s t : Int), X = .int .i64 x ∧ Y = .int .i64 y ∧ S = .int .i64 s ∧ T = .int .i64 t ∧ Hid (Euc (a % m) m x y s t) ∧ (0 ≤ x ∧ x ≤ 2147483647) ∧ (0 ≤ y ∧ y ≤ 2147483647) ∧ (-2147483648 ≤ s ∧ s ≤ 2147483648) ∧ (-2147483648 ≤ t ∧ t ≤ 2147483648)) (fun _ Y _ _ _ => (intOf Y).natAbs)
  case atStart => exact ⟨a % m, m, 1, 0, rfl, rfl, rfl, rfl, Euc.start (a % m) m, by omega, by omega, by omega, by omega⟩
  case round =>
    obtain ⟨x, y, s, t, rfl, rfl, rfl, rfl, HE, ⟨x1, x2⟩, ⟨y1, y2⟩, ⟨s1, s2⟩, ⟨t1, t2⟩⟩ := hrel
    by_cases hz : y = 0
    · subst hz
      have HF := Lib.hid (HE.out.final (show m ≠ 0 by omega))
      have hxg : x.natAbs = Int.gcd (a % m) m := HF.out.1
      by_cases hx : x = 1
      · subst hx
        have H1 := Lib.hid (show Int.gcd (a % m) m = 1 by omega)
        clear hxg
        go_wp2_with (go_at_call 50; ((with_reducible refine (refMod_any _ _ _ m1 (by omega)).mono ?_); rintro e w' ⟨rfl, rfl⟩))
        go_ret2
        have h1 := H1.out
        have hf := HF.out.2
        rw [h1, if_neg (by omega), Nat.div_one, Int.natAbs_of_nonneg (by omega)] at hf
        exact ⟨_, _, rfl, .inl ⟨h1, rfl, hf⟩, rfl⟩
      · have hx1 : (x == 1) = false := by simpa using hx
        have H1 := Lib.hid (show ¬ Int.gcd (a % m) m = 1 by omega)
        clear hxg
        go_wp2
        go_ret2
        have h1 := H1.out
        exact ⟨_, _, rfl, .inr ⟨h1, rfl, rfl⟩, rfl⟩
    · obtain ⟨⟨h1, h2⟩, ⟨h3, h4⟩, ⟨h5, h6⟩, ⟨h7, h8⟩⟩ := euc_bounds HE.out hz (by omega) (by omega)
      have hy0 : 0 < y := by omega
      obtain ⟨hr1, hr2⟩ := euc_pos x1 hy0
      go_wp2
      go_round
      case rel => exact ⟨y, x - x.tdiv y * y, t, s - x.tdiv y * t, rfl, rfl, rfl, rfl, HE.out.step, by omega, by omega, by omega, by omega⟩
      case measure => simp [intOf]; omega

theorem isU_of_inv {a b u : Int} (hb : b ≠ 0) (h : IsU ((a.tdiv (Int.gcd a b)) % ((b.natAbs / Int.gcd a b : Nat) : Int)) ((b.natAbs / Int.gcd a b : Nat) : Int) 1 u) : IsU a b (Int.gcd a b) u := by
  have hg : 0 < Int.gcd a b := Int.gcd_pos_of_ne_zero_right a hb
  have hgb : Int.gcd a b ∣ b.natAbs := Int.ofNat_dvd_left.1 (Int.gcd_dvd_right a b)
  have hga : (Int.gcd a b : Int) ∣ a := Int.gcd_dvd_left a b
  refine ⟨?_, h.lo, ?_⟩
  · have e1 : a.tdiv (Int.gcd a b) * (Int.gcd a b : Int) = a := Int.tdiv_mul_cancel hga
    have e2 : ((b.natAbs / Int.gcd a b : Nat) : Int) * (Int.gcd a b : Int) = (b.natAbs : Int) := by
      rw [← Int.natCast_mul, Nat.div_mul_cancel hgb]
    have hd := h.dvd
    generalize a.tdiv (Int.gcd a b) = a' at *
    generalize ((b.natAbs / Int.gcd a b : Nat) : Int) = m at *
    have e3 : m ∣ u * a' - 1 := by
      have : u * a' - 1 = (u * (a' % m) - ((1 : Nat) : Int)) + m * (u * (a' / m)) := by
        rw [Int.emod_def]; grind
      rw [this]
      exact Int.dvd_add hd (Int.dvd_mul_right _ _)
    have e4 : m * (Int.gcd a b : Int) ∣ (u * a' - 1) * (Int.gcd a b : Int) := Int.mul_dvd_mul_right _ e3
    rw [e2] at e4
    have e5 : (u * a' - 1) * (Int.gcd a b : Int) = u * a - (Int.gcd a b : Int) := by
      conv => rhs; rw [← e1]
      grind
    rw [e5] at e4
    exact Int.natAbs_dvd.1 e4
  · have := h.hi
    rwa [Int.natAbs_natCast, Nat.div_one] at this
theorem isU_one {a b : Int} (h : b.natAbs / Int.gcd a b = 1) : IsU a b (Int.gcd a b) 0 := by
  have hgb : Int.gcd a b ∣ b.natAbs := Int.ofNat_dvd_left.1 (Int.gcd_dvd_right a b)
  have e := Nat.div_mul_cancel hgb
  rw [h, Nat.one_mul] at e
  refine ⟨?_, by omega, by omega⟩
  rw [e]
  simp [Int.dvd_natAbs_self]
theorem gcd_parts {a b : Int} (hb : b ≠ 0) : Int.gcd ((a.tdiv (Int.gcd a b)) % ((b.natAbs / Int.gcd a b : Nat) : Int)) ((b.natAbs / Int.gcd a b : Nat) : Int) = 1 := by
  have hg : 0 < Int.gcd a b := Int.gcd_pos_of_ne_zero_right a hb
  have hgb : Int.gcd a b ∣ b.natAbs := Int.ofNat_dvd_left.1 (Int.gcd_dvd_right a b)
  have hga : (Int.gcd a b : Int) ∣ a := Int.gcd_dvd_left a b
  have e1 : a.tdiv (Int.gcd a b) * (Int.gcd a b : Int) = a := Int.tdiv_mul_cancel hga
  have e2 : ((b.natAbs / Int.gcd a b : Nat) : Int) * (Int.gcd a b : Int) = (b.natAbs : Int) := by
    rw [← Int.natCast_mul, Nat.div_mul_cancel hgb]
  have e3 : Int.gcd a (b.natAbs : Int) = Int.gcd a b := by simp [Int.gcd]
  have e4 : Int.gcd (a.tdiv (Int.gcd a b) * (Int.gcd a b : Int)) (((b.natAbs / Int.gcd a b : Nat) : Int) * (Int.gcd a b : Int)) = Int.gcd a b := by rw [e1, e2, e3]
  rw [Int.gcd_mul_right, Int.natAbs_natCast] at e4
  generalize a.tdiv (Int.gcd a b) = a' at *
  generalize ((b.natAbs / Int.gcd a b : Nat) : Int) = m at *
  have e5 : Int.gcd a' m * Int.gcd a b = 1 * Int.gcd a b := by omega
  have e6 := Nat.eq_of_mul_eq_mul_right hg e5
  have e7 : a' % m = a' + m * (-(a' / m)) := by rw [Int.emod_def, Int.mul_neg]; omega
  rw [e7, Int.gcd_comm, Int.gcd_add_mul_left_right, Int.gcd_comm]
  exact e6
end Go.Proofs.Ytoeailhcobbhjaa
