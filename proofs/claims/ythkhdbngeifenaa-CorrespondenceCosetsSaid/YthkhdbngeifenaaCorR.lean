/- halfplaneref03: Mod, Factor, Power, two, and the Kronecker symbol for positive numbers. -/
import Derived.Test.YthkhdbngeifenaaDnC
import Derived.Test.YthkhdbngeifenaaCorM
import Derived.Test.YthkhdbngeifenaaCorX
import Derived.Lib.Hide
import Derived.Deep.QuietTactic
import Derived.BigQuiet
namespace Go.Proofs.Ythkhdbngeifenaa
open Go.RowKit
set_option linter.unusedVariables false
set_option linter.unusedSimpArgs false

theorem quiet_add_left {P : Program} {f : FuncId} {args : Array Value} {w : World} {a n : Nat} {v : Value}
    (h : Calls P f args (w.drewN (a + n)) fun e w' => e = .returned v ∧ w.drewN (a + n) = w') :
    Calls P f args (w.drewN (a + n)) fun e w'' => e = .returned v ∧ ∃ m, w'' = w.drewN (a + m) :=
  h.mono fun _ _ ⟨he, hm⟩ => ⟨he, n, hm.symm⟩
theorem quiet_left {P : Program} {f : FuncId} {args : Array Value} {w : World} {n : Nat} {v : Value}
    (h : Calls P f args (w.drewN n) fun e w' => e = .returned v ∧ w.drewN n = w') : Calls P f args (w.drewN n) fun e w'' => e = .returned v ∧ ∃ m, w'' = w.drewN m :=
  h.mono fun _ _ ⟨he, hm⟩ => ⟨he, n, hm.symm⟩

theorem dvd_emod_sub (a m : Int) : m ∣ a % m - a := by
  refine ⟨-(a / m), ?_⟩
  have := Int.emod_add_mul_ediv a m
  rw [Int.mul_neg]; omega
theorem refMod_any (a m : Int) (w : World) (hm : 1 ≤ m) (hm2 : m ≤ 9223372036854775807) :
    Calls Try.prog 53 #[.int .i64 a, .int .i64 m] w fun e w' => e = .returned (.int .i64 (a % m)) ∧ w = w' := by
  have hlo := Int.lt_tmod_of_pos a (b := m) (by omega)
  go_enter Try.func53, Try.ntmps53
  go_wp2
  · have h : a.tmod m < 0 := by assumption
    go_ret
    exact ⟨ret_int' (by rw [← tmod_add a m (by omega) h]), rfl⟩
  · have h : 0 ≤ a.tmod m := by assumption
    go_ret
    exact ⟨ret_int' (tmod_same a m (by omega) h), rfl⟩

/-- Behind the append of a prime power. -/
theorem fac_next {B : Nat} {w0 wr w3 : World} {v v' : Value} {L : List (Nat × Nat)} {d k : Nat} {o : Obj} (hown : wr.ownsRow B 56 2 v L.length (flat L)) (hb : Below B w0 wr) (hB : B ≤ wr.heap.size)
    (hown' : w3.ownsRow B 56 2 v' (L.length + 1) (flat L ++ [.int .i64 (d : Int), .int .i64 (k : Int)])) (hg : (wr.alloc o).grownBy w3 v.ownBlock) :
    w3.ownsRow B 56 2 v' (L ++ [(d, k)]).length (flat (L ++ [(d, k)])) ∧ Below B w0 w3 := by
  refine ⟨?_, (hb.alloc hB o).grown hg (by simp; omega) (fun j hj => (hown.lt j hj).1)⟩
  rw [flat_append, List.length_append]
  exact hown'

set_option maxHeartbeats 1600000 in
set_option maxRecDepth 1000000 in
theorem refFactor_any (n : Nat) (w : World) (hn : 1 ≤ n) (hn2 : (n : Int) ≤ 2147483647) :
    Calls Try.prog 38 #[.int .i64 n] w fun e w' => ∃ v, e = .returned v ∧ w'.ownsRow w.heap.size 56 2 v (facs 2 n).length (flat (facs 2 n)) ∧ Below w.heap.size w w' := by
  obtain ⟨i0, hi, hz0, hz1, hz2⟩ := info_parts Try.infoPP
  go_enter Try.func38, Try.ntmps38
  go_wp2
  go_loopw [0, 3, 4, 5] (fun N v D _ wr => ∃ (d r : Nat) (F : List (Nat × Nat)), N = .int .i64 r ∧ D = .int .i64 d ∧ 2 ≤ d ∧ (d : Int) ≤ 46341 ∧ 1 ≤ r ∧ (r : Int) ≤ 2147483647 ∧ Hid (F.length + 2 ≤ d) ∧ Hid (F ++ facs d r = facs 2 n) ∧ Hid (wr.ownsRow w.heap.size 56 2 v F.length (flat F)) ∧ Hid (Below w.heap.size w wr)) (fun _ _ D _ _ => 50000 - (intOf D).toNat)
  case atStart => exact ⟨2, n, [], rfl, rfl, by omega, by omega, hn, hn2, by show _ ≤ _; simp, rfl, World.ownsRow_nil _ _ _ _, Below.refl _ _⟩
  case round =>
    obtain ⟨d, r, F, rfl, rfl, hd, hd2, hr, hr2, HL, HF, HO, HB⟩ := hrel
    have hsz := HB.out.size
    have hdd : (d : Int) * (d : Int) ≤ 46341 * 46341 := Int.mul_le_mul hd2 hd2 (by omega) (by omega)
    have hdd0 : 0 ≤ (d : Int) * (d : Int) := Int.mul_nonneg (by omega) (by omega)
    by_cases hlt : d * d ≤ r
    · have hi2 : (d : Int) * (d : Int) ≤ (r : Int) := by rw [← Int.natCast_mul]; omega
      have hd3 : (d : Int) ≤ 46340 := by
        rcases Int.lt_or_le 46340 (d : Int) with h | h
        · have : (46341 : Int) * 46341 ≤ (d : Int) * (d : Int) := Int.mul_le_mul (by omega) (by omega) (by omega) (by omega)
          omega
        · exact h
      have HF2 : Hid (F ++ part d (strip r d r).1 ++ facs (d + 1) (strip r d r).2 = facs 2 n) := by
        show _ = _
        rw [List.append_assoc, ← facs_step hd hlt]; exact HF.out
      have HP := Lib.hid (strip_pos (f := r) (d := d) (r := r) hd hr)
      have HLE := Lib.hid (strip_le r d r).1
      have hd0 : 1 ≤ (d : Int) := by omega
      clear hlt
      go_wp2
      go_loopw [0, 5] (fun N K wi => ∃ (j f r' : Nat), N = .int .i64 r' ∧ K = .int .i64 j ∧ Hid (r' ≤ f) ∧ 1 ≤ r' ∧ j + r' ≤ r ∧ Hid (strip r d r = (j + (strip f d r').1, (strip f d r').2)) ∧ wi = wr) (fun _ K _ => r - (intOf K).toNat)
      case atStart => exact ⟨0, r, r, rfl, rfl, Nat.le_refl _, hr, by omega, by show _ = _; simp, rfl⟩
      case round =>
        obtain ⟨j, f, r', rfl, rfl, Hf, hr1, hjr, HS, rfl⟩ := hrel
        have hr3 : (r' : Int) ≤ 2147483647 := by omega
        by_cases hm : r' % d = 0
        · have HM := Lib.hid hm
          have hm2 : ((r' : Int) % (d : Int) == 0) = true := by rw [natmod_cast, hm]; rfl
          clear hm
          obtain ⟨f, rfl⟩ : ∃ f', f = f' + 1 := ⟨f - 1, by have := Hf.out; omega⟩
          have hq1 := div_one_le hd hr1 HM.out
          have HQ2 := Lib.hid (div_small (f := f) hd hr1 Hf.out)
          have hq3 : r' / d < r' := Nat.div_lt_self (by omega) (by omega)
          have HS2 : Hid (strip r d r = (j + 1 + (strip f d (r' / d)).1, (strip f d (r' / d)).2)) := by
            show _ = _
            rw [HS.out, strip_hit HM.out]
            simp; omega
          go_wp2
          go_roundw
          case rel => exact ⟨j + 1, f, r' / d, rfl, by go_num, HQ2.out, hq1, by omega, HS2, by first | rfl | trivial⟩
          case measure => simp [intOf]; omega
        · have HM := Lib.hid hm
          have hm2 : ((r' : Int) % (d : Int) == 0) = false := by rw [natmod_cast, beq_eq_false_iff_ne]; intro h; exact hm (Int.ofNat_eq_zero.1 h)
          clear hm
          have HS2 : Hid (strip r d r = (j, r')) := by
            show _ = _
            rw [HS.out]
            cases f with
            | zero => rfl
            | succ f => rw [strip_miss HM.out]; rfl
          clear HS
          rw [HS2.out] at HF2 HP HLE
          by_cases hj : j = 0
          · subst hj
            go_wp2
            go_roundw
            case rel =>
              refine ⟨d + 1, r', F, rfl, by go_num, by omega, by omega, HP.out, hr3, by have := HL.out; show _ ≤ _; omega, by have := HF2.out; show _ = _; simpa [part] using this, HO.out, HB.out⟩
            case measure => simp [intOf]; omega
          · have hj0 : 0 < (j : Int) := by omega
            have hown := HO.out
            have hF2 := HL.out
            go_wp2_with (at_builtin; (refine wpList_append_own _ rfl _ _ 52 rfl w.heap.size 56 i0 (.agg #[.int .i64 0, .int .i64 0]) 2 16 Try.underlying52 hi hz0 hz1 hz2 rfl (by decide) _ _ _ rfl (hown.alloc _) ⟨wr.heap.size, 0, none⟩ 1 1 [.int .i64 (d : Int), .int .i64 (j : Int)] rfl rfl (cell_two_new _ _ _ _) (fun x hx => by simp at hx; rcases hx with rfl | rfl <;> rfl) (by unfold maxLen; omega) (by omega) (by simp; omega) ?_); intro v' w3 hown' hgrow3 hnil3; have HR := Lib.hid (fac_next hown HB.out hsz hown' hgrow3); clear hown' hgrow3 hnil3 hown)
            go_roundw
            case rel =>
              have e : part d j = [(d, j)] := by simp [part]; omega
              refine ⟨d + 1, r', F ++ [(d, j)], rfl, by go_num, by omega, by omega, HP.out, hr3, by show _ ≤ _; simp; omega, by have := HF2.out; rwa [e] at this, HR.out.1, HR.out.2⟩
            case measure => simp [intOf]; omega
    · have hi2 : (r : Int) < (d : Int) * (d : Int) := by rw [← Int.natCast_mul]; omega
      have HF2 := Lib.hid HF.out
      rw [facs_big hlt] at HF2
      clear hlt
      have hF2 := HL.out
      by_cases hr1 : 1 < r
      · have HF3 : Hid (F ++ [(r, 1)] = facs 2 n) := by rw [if_pos hr1] at HF2; exact HF2
        have hown := HO.out
        go_wp2_with (at_builtin; (refine wpList_append_own _ rfl _ _ 52 rfl w.heap.size 56 i0 (.agg #[.int .i64 0, .int .i64 0]) 2 16 Try.underlying52 hi hz0 hz1 hz2 rfl (by decide) _ _ _ rfl (hown.alloc _) ⟨wr.heap.size, 0, none⟩ 1 1 [.int .i64 (r : Int), .int .i64 ((1 : Nat) : Int)] rfl rfl (cell_two_new _ _ _ _) (fun x hx => by simp at hx; rcases hx with rfl | rfl <;> rfl) (by unfold maxLen; omega) (by omega) (by simp; omega) ?_); intro v' w3 hown' hgrow3 hnil3; have HR := Lib.hid (fac_next hown HB.out hsz hown' hgrow3); clear hown' hgrow3 hnil3 hown)
        go_ret
        refine ⟨_, rfl, ?_, HR.out.2⟩
        have := HR.out.1
        rw [HF3.out] at this
        exact this
      · have HF3 : Hid (F = facs 2 n) := by rw [if_neg hr1, List.append_nil] at HF2; exact HF2
        go_wp2
        go_ret
        refine ⟨_, rfl, ?_, HB.out⟩
        have := HO.out
        rw [HF3.out] at this
        exact this
theorem dvd_mul_sub {m a b c d : Int} (h : m ∣ a - b) (k : m ∣ c - d) : m ∣ a * c - b * d := by
  have e : a * c - b * d = (a - b) * c + b * (c - d) := by grind
  rw [e]
  exact Int.dvd_add (Int.dvd_mul_of_dvd_left h) (Int.dvd_mul_of_dvd_right k)
theorem dvd_pow_sub {m a b : Int} (h : m ∣ a - b) (k : Nat) : m ∣ a ^ k - b ^ k := by
  induction k with
  | zero => simp
  | succ k ih => rw [Int.pow_succ, Int.pow_succ]; exact dvd_mul_sub ih h
theorem emod_of_dvd {m o y : Int} (h0 : 0 ≤ o) (h1 : o < m) (h : m ∣ o - y) : o = y % m := by
  obtain ⟨t, ht⟩ := h
  have : y = o + m * (-t) := by rw [Int.mul_neg]; omega
  rw [this, Int.add_mul_emod_self_left, Int.emod_eq_of_lt h0 h1]
theorem dvd_sub_trans {m a b c : Int} (h : m ∣ a - b) (k : m ∣ b - c) : m ∣ a - c := by
  have := Int.dvd_add h k
  rwa [show a - b + (b - c) = a - c by omega] at this
theorem pow_step {m o x : Int} {k : Nat} {y : Int} (h : m ∣ o * x ^ k - y) :
    (k % 2 = 1 → m ∣ (o * x % m) * (x * x % m) ^ (k / 2) - y) ∧ (k % 2 = 0 → m ∣ o * (x * x % m) ^ (k / 2) - y) := by
  have e1 : m ∣ (x * x % m) ^ (k / 2) - (x * x) ^ (k / 2) := dvd_pow_sub (dvd_emod_sub _ _) _
  constructor
  · intro hk
    have e2 : o * x ^ k = (o * x) * (x * x) ^ (k / 2) := by
      conv => lhs; rw [show k = 2 * (k / 2) + 1 by omega, Int.pow_succ, Int.pow_mul]
      rw [show x ^ 2 = x * x by rw [Int.pow_succ, Int.pow_succ, Int.pow_zero, Int.one_mul]]
      grind
    rw [e2] at h
    exact dvd_sub_trans (dvd_mul_sub (dvd_emod_sub (o * x) m) e1) h
  · intro hk
    have e2 : o * x ^ k = o * (x * x) ^ (k / 2) := by
      conv => lhs; rw [show k = 2 * (k / 2) by omega, Int.pow_mul]
      rw [show x ^ 2 = x * x by rw [Int.pow_succ, Int.pow_succ, Int.pow_zero, Int.one_mul]]
    rw [e2] at h
    exact dvd_sub_trans (dvd_mul_sub (b := o) (by simp) e1) h

set_option maxHeartbeats 1600000 in
set_option maxRecDepth 1000000 in
theorem power_any (a m : Int) (n : Nat) (w : World) (m1 : 1 ≤ m) (m2 : m ≤ 2147483647) (hn : (n : Int) ≤ 9223372036854775807) :
    Calls Try.prog 40 #[.int .i64 a, .int .i64 n, .int .i64 m] w fun e w' => e = .returned (.int .i64 (a ^ n % m)) ∧ ∃ q, w' = w.drewN q := by
  have h1 := Int.emod_nonneg a (show m ≠ 0 by omega)
  have h2 := Int.emod_lt_of_pos a (show 0 < m by omega)
  have h3 := Int.emod_nonneg 1 (show m ≠ 0 by omega)
  have h4 := Int.emod_lt_of_pos 1 (show 0 < m by omega)
  have H0 : Hid (m ∣ (1 % m) * (a % m) ^ n - a ^ n) := by
    have := dvd_mul_sub (dvd_emod_sub 1 m) (dvd_pow_sub (dvd_emod_sub a m) n)
    rwa [Int.one_mul] at this
  go_enter Try.func40, Try.ntmps40
  go_wp2
  go_quiet ((go_at_call 53; first | exact quiet_left (refMod_any _ _ _ m1 (by omega)) | exact quiet_add_left (refMod_any _ _ _ m1 (by omega))))
  go_wp2
  go_loopw [1, 7, 8] (fun N O X wr => ∃ (k q : Nat) (o x : Int), N = .int .i64 k ∧ O = .int .i64 o ∧ X = .int .i64 x ∧ (k : Int) ≤ 9223372036854775807 ∧ (0 ≤ o ∧ o < m) ∧ (0 ≤ x ∧ x < m) ∧ Hid (m ∣ o * x ^ k - a ^ n) ∧ wr = w.drewN q) (fun N _ _ _ => (intOf N).toNat)
  case atStart => exact ⟨n, _, 1 % m, a % m, rfl, rfl, rfl, hn, ⟨h3, h4⟩, ⟨h1, h2⟩, H0.out, rfl⟩
  case round =>
    obtain ⟨k, q, o, x, rfl, rfl, rfl, hk, ⟨o1, o2⟩, ⟨x1, x2⟩, HD, rfl⟩ := hrel
    by_cases hz : k = 0
    · subst hz
      have HR : Hid (o = a ^ n % m) := emod_of_dvd o1 o2 (by have := HD.out; rwa [Int.pow_zero, Int.mul_one] at this)
      go_wp2
      go_ret
      exact ⟨ret_int' HR.out, q, rfl⟩
    · have hk0 : 0 < (k : Int) := by omega
      have b1 : 0 ≤ o * x := Int.mul_nonneg o1 x1
      have b2 : o * x ≤ 2147483647 * 2147483647 := Int.mul_le_mul (by omega) (by omega) x1 (by omega)
      have b3 : 0 ≤ x * x := Int.mul_nonneg x1 x1
      have b4 : x * x ≤ 2147483647 * 2147483647 := Int.mul_le_mul (by omega) (by omega) x1 (by omega)
      have c1 := Int.emod_nonneg (o * x) (show m ≠ 0 by omega)
      have c2 := Int.emod_lt_of_pos (o * x) (show 0 < m by omega)
      have c3 := Int.emod_nonneg (x * x) (show m ≠ 0 by omega)
      have c4 := Int.emod_lt_of_pos (x * x) (show 0 < m by omega)
      have HS := Lib.hid (pow_step HD.out)
      by_cases hodd : k % 2 = 1
      · have e1 : ((k : Int) % 2 == 1) = true := by rw [beq_iff_eq]; omega
        have HS2 := Lib.hid (HS.out.1 hodd)
        clear hodd
        go_wp2
        go_roundw
        case rel => exact ⟨k / 2, q, o * x % m, x * x % m, by go_num, rfl, rfl, by omega, ⟨c1, c2⟩, ⟨c3, c4⟩, HS2.out, rfl⟩
        case measure => simp [intOf]; omega
      · have e1 : ((k : Int) % 2 == 1) = false := by rw [beq_eq_false_iff_ne]; omega
        have HS2 := Lib.hid (HS.out.2 (by omega))
        clear hodd
        go_wp2
        go_roundw
        case rel => exact ⟨k / 2, q, o, x * x % m, by go_num, rfl, rfl, by omega, ⟨o1, o2⟩, ⟨c3, c4⟩, HS2.out, rfl⟩
        case measure => simp [intOf]; omega

set_option maxHeartbeats 800000 in
theorem refTwo_any (a : Int) (w : World) : Calls Try.prog 39 #[.int .i64 a] w fun e w' => e = .returned (.int .i64 (val2 a)) ∧ w = w' := by
  have HM := Lib.hid (fun W => refMod_any a 8 W (by omega) (by omega))
  have h0 := Int.emod_nonneg a (show (8 : Int) ≠ 0 by omega)
  have h1 := Int.emod_lt_of_pos a (show (0 : Int) < 8 by omega)
  have hc : a % 8 = 1 ∨ a % 8 = 7 ∨ a % 8 = 3 ∨ a % 8 = 5 ∨ (a % 8 ≠ 1 ∧ a % 8 ≠ 7 ∧ a % 8 ≠ 3 ∧ a % 8 ≠ 5) := by omega
  rcases hc with h | h | h | h | ⟨g1, g2, g3, g4⟩
  · have HR : Hid ((1 : Int) = val2 a) := by show _ = _; unfold val2 t8; rw [if_neg (by omega), if_pos (by omega)]
    go_enter Try.func39, Try.ntmps39
    go_wp2_with (go_at_call 53; ((with_reducible refine (HM.out _).mono ?_); rintro e w' ⟨rfl, rfl⟩))
    go_ret
    exact ⟨ret_int' HR.out, rfl⟩
  · have HR : Hid ((1 : Int) = val2 a) := by show _ = _; unfold val2 t8; rw [if_neg (by omega), if_pos (by omega)]
    go_enter Try.func39, Try.ntmps39
    go_wp2_with (go_at_call 53; ((with_reducible refine (HM.out _).mono ?_); rintro e w' ⟨rfl, rfl⟩))
    go_ret
    exact ⟨ret_int' HR.out, rfl⟩
  · have HR : Hid ((-1 : Int) = val2 a) := by show _ = _; unfold val2 t8; rw [if_neg (by omega), if_neg (by omega)]
    go_enter Try.func39, Try.ntmps39
    go_wp2_with (go_at_call 53; ((with_reducible refine (HM.out _).mono ?_); rintro e w' ⟨rfl, rfl⟩))
    go_ret
    exact ⟨ret_int' HR.out, rfl⟩
  · have HR : Hid ((-1 : Int) = val2 a) := by show _ = _; unfold val2 t8; rw [if_neg (by omega), if_neg (by omega)]
    go_enter Try.func39, Try.ntmps39
    go_wp2_with (go_at_call 53; ((with_reducible refine (HM.out _).mono ?_); rintro e w' ⟨rfl, rfl⟩))
    go_ret
    exact ⟨ret_int' HR.out, rfl⟩
  · have HR : Hid ((0 : Int) = val2 a) := by show _ = _; unfold val2; rw [if_pos (by omega)]
    have f1 : (a % 8 == 1) = false := by rw [beq_eq_false_iff_ne]; exact g1
    have f2 : (a % 8 == 7) = false := by rw [beq_eq_false_iff_ne]; exact g2
    have f3 : (a % 8 == 3) = false := by rw [beq_eq_false_iff_ne]; exact g3
    have f4 : (a % 8 == 5) = false := by rw [beq_eq_false_iff_ne]; exact g4
    clear g1 g2 g3 g4
    go_enter Try.func39, Try.ntmps39
    go_wp2_with (go_at_call 53; ((with_reducible refine (HM.out _).mono ?_); rintro e w' ⟨rfl, rfl⟩))
    go_ret
    exact ⟨ret_int' HR.out, rfl⟩

theorem tri_bound {x : Int} (h : x = 0 ∨ x = 1 ∨ x = -1) : -1 ≤ x ∧ x ≤ 1 := by omega
theorem pow_tri {z s : Int} {j : Nat} (hz : z = 0 ∨ z = 1 ∨ z = -1) (hs : s = 0 ∨ s = 1 ∨ s = -1) : -1 ≤ z * s ^ j ∧ z * s ^ j ≤ 1 := tri_bound (tri_mul hz (pow_cases hs j))
theorem halfp {p : Nat} (hp : Pr p) (h2 : p ≠ 2) : ((p : Int) - 1) / 2 = ((p / 2 : Nat) : Int) := by
  have := hp.1
  have := pr_odd hp (by omega)
  omega
theorem power_ctr {a : Int} {p : Nat} (hp : Pr p) (h2 : p ≠ 2) (hpb : (p : Int) ≤ 2147483647) : ∃ r : Int, (0 ≤ r ∧ r < (p : Int)) ∧ (r = (p : Int) - 1 → lg a p = -1) ∧ (r ≠ (p : Int) - 1 → lg a p = r) ∧
    ∀ x : Int, x = ((p : Int) - 1) / 2 → ∀ W : World, Calls Try.prog 40 #[.int .i64 a, .int .i64 x, .int .i64 (p : Int)] W fun e w' => e = .returned (.int .i64 r) ∧ ∃ q, w' = W.drewN q := by
  have := hp.1
  refine ⟨a ^ (p / 2) % (p : Int), ⟨Int.emod_nonneg _ (by omega), Int.emod_lt_of_pos _ (by omega)⟩, (power_lg hp h2).1, (power_lg hp h2).2, ?_⟩
  intro x hx W
  rw [hx, halfp hp h2]
  exact power_any a p (p / 2) W (by omega) hpb (by omega)
set_option maxHeartbeats 3200000 in
set_option maxRecDepth 1000000 in
theorem refKron_F (a : Int) (m : Nat) (F : List (Nat × Nat)) (w : World) (hm1 : 1 ≤ m) (hm2 : (m : Int) ≤ 2147483647) (hFF : facs 2 m = F) :
    Calls Try.prog 31 #[.int .i64 a, .int .i64 (m : Int)] w fun e w' => e = .returned (.int .i64 (prodL a F)) ∧ Below w.heap.size w w' := by
  have HFI : Hid (FacIs 2 m F) := by rw [← hFF]; exact facs_two_is hm1
  have hlenI : (F.length : Int) ≤ 2147483647 := by have := HFI.out.len; omega
  have hfac := fun W => refFactor_any m W hm1 hm2
  rw [hFF] at hfac
  have HFA := Lib.hid hfac
  have HTW := Lib.hid (fun W => refTwo_any a W)
  have hn1 : ((m : Int) == 0) = false := by rw [beq_eq_false_iff_ne]; omega
  have hn2 : ¬ (m : Int) < 0 := by omega
  clear hFF hfac
  go_enter Try.func31, Try.ntmps31
  go_wp2_with (first | (go_at_call 38; fail))
  refine (HFA.out _).mono ?_
  rintro e w1 ⟨v, rfl, hown, hb⟩
  have HB := Lib.hid hb
  have hsz := hb.size
  clear HFA hb
  rcases own_shape hown with ⟨rfl, rfl⟩ | ⟨g, cap, rfl, hg, hgs, hcap, hcell⟩
  · clear hown
    have HE : Hid ((1 : Int) = prodL a []) := by show _ = _; rfl
    go_wp2
    refine wp_loop_rounds 1 ?_
    rw [rounds_succ]
    go_wp2
    go_ret
    exact ⟨ret_int' HE.out, HB.out⟩
  · have HL := Lib.hid hcell
    clear hcell hown
    go_wp2
    go_loopw [5, 7, 8, 9, 10] (fun O i _ _ _ wr => ∃ (k : Nat) (z : Int), k ≤ F.length ∧ i = .int .i64 k ∧ O = .int .i64 z ∧ Hid (z = prodL a (F.take k)) ∧ Hid (Below w1.heap.size w1 wr)) (fun _ i _ _ _ _ => F.length - (intOf i).toNat)
    case atStart => exact ⟨0, 1, Nat.zero_le _, rfl, rfl, by show _ = _; rfl, Below.refl _ _⟩
    case round =>
      obtain ⟨k, z, hk, rfl, rfl, HZ, HBR⟩ := hrel
      have hsr := HBR.out.size
      by_cases hlt : k < F.length
      · have c1 := (HBR.out.cell (p := ⟨g, k * 2, none⟩) hgs).trans (HL.out k hlt).1
        have c2 := (HBR.out.cell (p := ⟨g, k * 2 + 1, none⟩) hgs).trans (HL.out k hlt).2
        have hlt2 : (k : Int) < (F.length : Int) := by omega
        obtain ⟨_, _, _, _, s5, s6, s7, _⟩ := fund_step HFI.out hlt
        have HPR := Lib.hid (HFI.out.mem _ (List.getElem_mem hlt)).1
        have hp2 : (F[k].1 : Int) ≤ 2147483647 := by omega
        have he2 : (F[k].2 : Int) ≤ 2147483647 := by omega
        have HZ2 : Hid (z * lg a F[k].1 ^ F[k].2 = prodL a (F.take (k + 1))) := by
          show _ = _
          rw [HZ.out, prodL_take hlt]
        have HZT : Hid (z = 0 ∨ z = 1 ∨ z = -1) := by
          have := prodL_cases a (F.take k)
          rw [← HZ.out] at this; exact this
        have HLG := Lib.hid (lg_cases a F[k].1)
        clear s6 s7
        generalize F[k].1 = p at *
        generalize F[k].2 = q at *
        by_cases hp : p = 2
        · subst hp
          have HSS : Hid (lg a 2 = val2 a) := rfl
          clear s5
          go_wp2_with (first
            | (go_at_call 39; ((with_reducible refine (HTW.out _).mono ?_); rintro e w' ⟨rfl, rfl⟩)))
          go_loop [5, 10] (fun O J => ∃ (j : Nat) (x : Int), J = .int .i64 j ∧ j ≤ q ∧ O = .int .i64 x ∧ Hid (x = z * lg a 2 ^ j)) (fun _ J => q - (intOf J).toNat)
          case atStart => exact ⟨0, z, rfl, by omega, rfl, by show _ = _; simp⟩
          case round =>
            obtain ⟨j, x, rfl, hj, rfl, HX⟩ := hrel
            by_cases hjl : j < q
            · have hjl2 : (j : Int) < (q : Int) := by omega
              have HX2 : Hid (x * val2 a = z * lg a 2 ^ (j + 1)) := by
                show _ = _
                rw [HX.out, ← HSS.out, Int.pow_succ, Int.mul_assoc]
              have hx3 : -1 ≤ x * val2 a ∧ x * val2 a ≤ 1 := by rw [HX2.out]; exact pow_tri HZT.out HLG.out
              obtain ⟨hx4, hx5⟩ := hx3
              go_wp2
              go_round
              case rel => exact ⟨j + 1, x * val2 a, by go_num, by omega, by first | rfl | go_num, HX2⟩
              case measure => simp [intOf]; omega
            · have hj2 : ¬ (j : Int) < (q : Int) := by omega
              have HX3 : Hid (x = prodL a (F.take (k + 1))) := by
                show _ = _
                rw [HX.out, show j = q by omega, HZ2.out]
              go_wp2
              go_roundw
              case rel => exact ⟨k + 1, x, hlt, by go_num, rfl, HX3, HBR.out⟩
              case measure => simp [intOf]; omega
        · have hp3 : (2 : Int) < (p : Int) := by omega
          obtain ⟨r, ⟨r1, r2⟩, r3, r4, hpw⟩ := power_ctr (a := a) HPR.out hp hp2
          have HPW := Lib.hid hpw
          have R3 := Lib.hid r3
          have R4 := Lib.hid r4
          clear r3 r4 hpw hp s5
          have d2 := fun N => (show (wr.drewN N).cell? ⟨g, k * 2 + 1, none⟩ = _ from c2)
          by_cases hr : r = (p : Int) - 1
          · have HSS := Lib.hid (R3.out hr)
            have hr2 : (r == (p : Int) - 1) = true := by rw [beq_iff_eq]; exact hr
            clear hr R3 R4
            go_wp2_with (first
              | (go_at_call 39; ((with_reducible refine (HTW.out _).mono ?_); rintro e w' ⟨rfl, rfl⟩))
              | (go_at_call 40; ((with_reducible refine (HPW.out _ (by omega) _).mono ?_); rintro e w' ⟨rfl, N, rfl⟩)))
            go_loop [5, 10] (fun O J => ∃ (j : Nat) (x : Int), J = .int .i64 j ∧ j ≤ q ∧ O = .int .i64 x ∧ Hid (x = z * lg a p ^ j)) (fun _ J => q - (intOf J).toNat)
            case atStart => exact ⟨0, z, rfl, by omega, rfl, by show _ = _; simp⟩
            case round =>
              obtain ⟨j, x, rfl, hj, rfl, HX⟩ := hrel
              by_cases hjl : j < q
              · have hjl2 : (j : Int) < (q : Int) := by omega
                have HX2 : Hid (x * (-1) = z * lg a p ^ (j + 1)) := by
                  show _ = _
                  rw [HX.out, ← HSS.out, Int.pow_succ, Int.mul_assoc]
                have hx3 : -1 ≤ x * (-1) ∧ x * (-1) ≤ 1 := by rw [HX2.out]; exact pow_tri HZT.out HLG.out
                obtain ⟨hx4, hx5⟩ := hx3
                go_wp2
                go_round
                case rel => exact ⟨j + 1, x * (-1), by go_num, by omega, by first | rfl | go_num, HX2⟩
                case measure => simp [intOf]; omega
              · have hj2 : ¬ (j : Int) < (q : Int) := by omega
                have HX3 : Hid (x = prodL a (F.take (k + 1))) := by
                  show _ = _
                  rw [HX.out, show j = q by omega, HZ2.out]
                go_wp2
                go_roundw
                case rel => exact ⟨k + 1, x, hlt, by go_num, rfl, HX3, below_drewN HBR.out N⟩
                case measure => simp [intOf]; omega
          · have HSS := Lib.hid (R4.out hr)
            have hr2 : (r == (p : Int) - 1) = false := by rw [beq_eq_false_iff_ne]; exact hr
            clear hr R3 R4
            go_wp2_with (first
              | (go_at_call 39; ((with_reducible refine (HTW.out _).mono ?_); rintro e w' ⟨rfl, rfl⟩))
              | (go_at_call 40; ((with_reducible refine (HPW.out _ (by omega) _).mono ?_); rintro e w' ⟨rfl, N, rfl⟩)))
            go_loop [5, 10] (fun O J => ∃ (j : Nat) (x : Int), J = .int .i64 j ∧ j ≤ q ∧ O = .int .i64 x ∧ Hid (x = z * lg a p ^ j)) (fun _ J => q - (intOf J).toNat)
            case atStart => exact ⟨0, z, rfl, by omega, rfl, by show _ = _; simp⟩
            case round =>
              obtain ⟨j, x, rfl, hj, rfl, HX⟩ := hrel
              by_cases hjl : j < q
              · have hjl2 : (j : Int) < (q : Int) := by omega
                have HX2 : Hid (x * r = z * lg a p ^ (j + 1)) := by
                  show _ = _
                  rw [HX.out, ← HSS.out, Int.pow_succ, Int.mul_assoc]
                have hx3 : -1 ≤ x * r ∧ x * r ≤ 1 := by rw [HX2.out]; exact pow_tri HZT.out HLG.out
                obtain ⟨hx4, hx5⟩ := hx3
                go_wp2
                go_round
                case rel => exact ⟨j + 1, x * r, by go_num, by omega, by first | rfl | go_num, HX2⟩
                case measure => simp [intOf]; omega
              · have hj2 : ¬ (j : Int) < (q : Int) := by omega
                have HX3 : Hid (x = prodL a (F.take (k + 1))) := by
                  show _ = _
                  rw [HX.out, show j = q by omega, HZ2.out]
                go_wp2
                go_roundw
                case rel => exact ⟨k + 1, x, hlt, by go_num, rfl, HX3, below_drewN HBR.out N⟩
                case measure => simp [intOf]; omega
      · have hkl : k = F.length := by omega
        have HE : Hid (z = prodL a F) := by
          show _ = _
          rw [HZ.out, hkl, List.take_length]
        have hn1 : ¬ (k : Int) < (F.length : Int) := by omega
        clear hkl HZ
        go_wp2
        go_ret
        exact ⟨ret_int' HE.out, HB.out.trans (HBR.out.mono hsz)⟩
theorem refKron_any (a : Int) (m : Nat) (w : World) (hm1 : 1 ≤ m) (hm2 : (m : Int) ≤ 2147483647) :
    Calls Try.prog 31 #[.int .i64 a, .int .i64 (m : Int)] w fun e w' => e = .returned (.int .i64 (kron a m)) ∧ Below w.heap.size w w' := by
  have := refKron_F a m (facs 2 m) w hm1 hm2 rfl
  have h := kron_prod (a := a) (n := (m : Int)) (by omega)
  rw [sg_pos (by omega), Int.one_mul, Int.natAbs_natCast] at h
  rwa [← h] at this
end Go.Proofs.Ythkhdbngeifenaa
