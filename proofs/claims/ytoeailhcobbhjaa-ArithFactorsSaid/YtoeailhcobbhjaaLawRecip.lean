/- ArithReciprocity answers true for all integers: what it does to the world. -/
import Derived.Test.YtoeailhcobbhjaaKronMath
import Derived.Test.YtoeailhcobbhjaaAwake
namespace Go.Proofs.Ytoeailhcobbhjaa
open Go.RowKit

theorem kron_cases (a n : Int) : -1 ≤ kron a n ∧ kron a n ≤ 1 := by
  have hp : ∀ k : Nat, t8 a ^ k = 1 ∨ t8 a ^ k = -1 := fun k => by
    induction k with
    | zero => simp
    | succ k ih => rw [Int.pow_succ]; exact one_mul_cases ih (t8_cases a)
  have hs : sg a n = 1 ∨ sg a n = -1 := by unfold sg; split <;> simp
  by_cases hn : n = 0
  · unfold kron; rw [if_pos hn]; split <;> omega
  · by_cases h : a % 2 = 0 ∧ n % 2 = 0
    · rw [kron_two hn h]; omega
    · rw [kron_def hn h]
      have h1 := one_mul_cases hs (hp (strip n.natAbs 2 n.natAbs).1)
      have h2 : -1 ≤ jacI a (strip n.natAbs 2 n.natAbs).2 ∧ jacI a (strip n.natAbs 2 n.natAbs).2 ≤ 1 := by
        unfold jacI
        have := jac_cases a.natAbs (strip n.natAbs 2 n.natAbs).2
        split <;> omega
      rcases h1 with h1 | h1 <;> rw [h1] <;> omega
theorem prod_small {x y : Int} (h1 : -1 ≤ x ∧ x ≤ 1) (h2 : -1 ≤ y ∧ y ≤ 1) : -1 ≤ x * y ∧ x * y ≤ 1 := by
  have hx : x = -1 ∨ x = 0 ∨ x = 1 := by omega
  rcases hx with rfl | rfl | rfl <;> omega

theorem ret_bool' {b : Bool} (h : b = true) : Ending.returned (.bool b) = .returned (.bool true) := by rw [h]
theorem gcdI_one {a n : Int} : gcdI a n = 1 ↔ Int.gcd a n = 1 := by
  unfold gcdI
  split <;> omega
theorem rec_parts {a n : Int} (q : ((1 ≤ a ∧ (a % 2 == 0) = false) ∧ 1 ≤ n) ∧ (n % 2 == 0) = false) :
    kron a n * kron n a = if Int.gcd a n ≠ 1 then 0 else if a % 4 = 3 ∧ n % 4 = 3 then -1 else 1 := by
  obtain ⟨⟨⟨h1, h2⟩, h3⟩, h4⟩ := q
  rw [beq_eq_false_iff_ne] at h2 h4
  exact kron_recip h1 h3 (by omega) (by omega)
theorem rec0 {a n : Int} (q : ((1 ≤ a ∧ (a % 2 == 0) = false) ∧ 1 ≤ n) ∧ (n % 2 == 0) = false) (g : (gcdI a n != 1) = true) : (kron a n * kron n a == 0) = true := by
  rw [bne_iff_ne] at g
  rw [beq_iff_eq, rec_parts q, if_pos (fun h => g (gcdI_one.2 h))]
theorem rec3 {a n : Int} (q : ((1 ≤ a ∧ (a % 2 == 0) = false) ∧ 1 ≤ n) ∧ (n % 2 == 0) = false) (g : (gcdI a n != 1) = false) (h4 : a % 4 = 3) (h5 : (n % 4 == 3) = true) : (kron a n * kron n a == -1) = true := by
  rw [bne_eq_false_iff_eq] at g
  rw [beq_iff_eq] at h5
  rw [beq_iff_eq, rec_parts q, if_neg (fun h => h (gcdI_one.1 g)), if_pos ⟨h4, h5⟩]
theorem rec1 {a n : Int} (q : ((1 ≤ a ∧ (a % 2 == 0) = false) ∧ 1 ≤ n) ∧ (n % 2 == 0) = false) (g : (gcdI a n != 1) = false) (h : ¬ a % 4 = 3 ∨ (n % 4 == 3) = false) : (kron a n * kron n a == 1) = true := by
  rw [bne_eq_false_iff_eq] at g
  have h' : ¬ (a % 4 = 3 ∧ n % 4 = 3) := by
    rintro ⟨h1, h2⟩
    rcases h with h | h
    · exact h h1
    · rw [beq_eq_false_iff_ne] at h; exact h h2
  rw [beq_iff_eq, rec_parts q, if_neg (fun h => h (gcdI_one.1 g)), if_neg h']
def inP (a b n : Int) : Prop := 0 < n ∧ -2147483648 < a ∧ a < 2147483648 ∧ -2147483648 < b ∧ b < 2147483648
theorem ab_small {a b n : Int} (h : inP a b n) : -4611686018427387904 ≤ a * b ∧ a * b ≤ 4611686018427387904 := by
  obtain ⟨_, h1, h2, h3, h4⟩ := h
  have : (a * b).natAbs ≤ 2147483648 * 2147483648 := by rw [Int.natAbs_mul]; exact Nat.mul_le_mul (by omega) (by omega)
  omega
theorem ab_bounds {a b n : Int} (h : inP a b n) : -9223372036854775808 ≤ a * b ∧ a * b ≤ 9223372036854775807 := by
  have := ab_small h; omega
set_option maxHeartbeats 1600000 in
set_option maxRecDepth 1000000 in
theorem recip_walk (a b n : Int) (w : World) (a1 : -9223372036854775808 ≤ a) (a2 : a ≤ 9223372036854775807) (b1 : -9223372036854775808 ≤ b) (b2 : b ≤ 9223372036854775807) (n1 : -9223372036854775808 ≤ n) (n2 : n ≤ 9223372036854775807) :
    Calls Try.prog 10 #[.int .i64 a, .int .i64 b, .int .i64 n] w fun e w' => e = .returned (.bool true) ∧ Below w.heap.size w w' := by
  have HK : Hid (∀ W, Calls Try.prog 42 #[.int .i64 a, .int .i64 n] W fun e w' => e = .returned (.int .i64 (kron a n)) ∧ W = w') := fun W => kron_any a n W a1 a2 n1 n2
  have HL : Hid (∀ W, Calls Try.prog 42 #[.int .i64 n, .int .i64 a] W fun e w' => e = .returned (.int .i64 (kron n a)) ∧ W = w') := fun W => kron_any n a W n1 n2 a1 a2
  have HG : Hid (∀ W, Calls Try.prog 19 #[.int .i64 a, .int .i64 n] W fun e w' => e = .returned (.int .i64 (gcdI a n)) ∧ W = w') := fun W => refGcd_any a n W a1 a2 n1 n2
  obtain ⟨k1, k2⟩ := kron_cases a n
  obtain ⟨k3, k4⟩ := kron_cases n a
  obtain ⟨k5, k6⟩ := prod_small ⟨k1, k2⟩ ⟨k3, k4⟩
  by_cases hP : inP a b n
  · have HAB : Hid (∀ W, Calls Try.prog 42 #[.int .i64 (a * b), .int .i64 n] W fun e w' => e = .returned (.int .i64 (kron (a * b) n)) ∧ W = w') := fun W => kron_any (a * b) n W (ab_bounds hP).1 (ab_bounds hP).2 n1 n2
    have HBA : Hid (∀ W, Calls Try.prog 42 #[.int .i64 n, .int .i64 (a * b)] W fun e w' => e = .returned (.int .i64 (kron n (a * b))) ∧ W = w') := fun W => kron_any n (a * b) W n1 n2 (ab_bounds hP).1 (ab_bounds hP).2
    have HBN : Hid (∀ W, Calls Try.prog 42 #[.int .i64 b, .int .i64 n] W fun e w' => e = .returned (.int .i64 (kron b n)) ∧ W = w') := fun W => kron_any b n W b1 b2 n1 n2
    have HNB : Hid (∀ W, Calls Try.prog 42 #[.int .i64 n, .int .i64 b] W fun e w' => e = .returned (.int .i64 (kron n b)) ∧ W = w') := fun W => kron_any n b W n1 n2 b1 b2
    obtain ⟨k7, k8⟩ := kron_cases b n
    obtain ⟨k9, k10⟩ := kron_cases n b
    obtain ⟨k11, k12⟩ := prod_small ⟨k1, k2⟩ ⟨k7, k8⟩
    obtain ⟨k13, k14⟩ := prod_small ⟨k3, k4⟩ ⟨k9, k10⟩
    obtain ⟨m1, m2⟩ := ab_small hP
    have f1 : (kron (a * b) n != kron a n * kron b n) = false := by rw [bne_eq_false_iff_eq]; exact kron_mul_left hP.1
    have HF2 : Hid (a ≠ 0 → b ≠ 0 → (kron n (a * b) != kron n a * kron n b) = false) := fun ha hb => by rw [bne_eq_false_iff_eq]; exact kron_mul_right hP.1 ha hb
    obtain ⟨p1, p2, p3, p4, p5⟩ := hP
    clear a1 a2 b1 b2 n1 n2
    by_cases ha : a = 0
    · have za : (a != 0) = false := by rw [bne_eq_false_iff_eq]; exact ha
      clear ha
      go_enter Try.func10, Try.ntmps10
      go_wp2_with (first
        | (go_at_call 15; ((with_reducible refine (awake_any _).mono ?_); rintro e w1 ⟨rfl, hb1⟩; have HB := Lib.hid hb1; clear hb1))
        | (go_at_call 42; ((with_reducible refine (HK.out _).mono ?_); rintro e w' ⟨rfl, rfl⟩))
        | (go_at_call 42; ((with_reducible refine (HL.out _).mono ?_); rintro e w' ⟨rfl, rfl⟩))
        | (go_at_call 19; ((with_reducible refine (HG.out _).mono ?_); rintro e w' ⟨rfl, rfl⟩))
        | (go_at_call 42; ((with_reducible refine (HAB.out _).mono ?_); rintro e w' ⟨rfl, rfl⟩))
        | (go_at_call 42; ((with_reducible refine (HBN.out _).mono ?_); rintro e w' ⟨rfl, rfl⟩))
        | (go_at_call 42; ((with_reducible refine (HBA.out _).mono ?_); rintro e w' ⟨rfl, rfl⟩))
        | (go_at_call 42; ((with_reducible refine (HNB.out _).mono ?_); rintro e w' ⟨rfl, rfl⟩)))
      all_goals go_ret
      all_goals (refine ⟨?_, HB.out⟩)
      all_goals first
        | rfl
        | (have q : ((1 ≤ a ∧ (a % 2 == 0) = false) ∧ 1 ≤ n) ∧ (n % 2 == 0) = false := by assumption
           first
             | (have g : (gcdI a n != 1) = true := by assumption
                exact ret_bool' (rec0 q g))
             | (have g : (gcdI a n != 1) = false := by assumption
                first
                  | (have h5 : (n % 4 == 3) = true := by assumption
                     exact ret_bool' (rec3 q g (by assumption) h5))
                  | (have h5 : (n % 4 == 3) = false := by assumption
                     exact ret_bool' (rec1 q g (.inr h5)))
                  | exact ret_bool' (rec1 q g (.inl (by assumption)))))
    · have za : (a != 0) = true := by rw [bne_iff_ne]; exact ha
      by_cases hb : b = 0
      · have zb : (b != 0) = false := by rw [bne_eq_false_iff_eq]; exact hb
        clear ha hb
        go_enter Try.func10, Try.ntmps10
        go_wp2_with (first
          | (go_at_call 15; ((with_reducible refine (awake_any _).mono ?_); rintro e w1 ⟨rfl, hb1⟩; have HB := Lib.hid hb1; clear hb1))
          | (go_at_call 42; ((with_reducible refine (HK.out _).mono ?_); rintro e w' ⟨rfl, rfl⟩))
          | (go_at_call 42; ((with_reducible refine (HL.out _).mono ?_); rintro e w' ⟨rfl, rfl⟩))
          | (go_at_call 19; ((with_reducible refine (HG.out _).mono ?_); rintro e w' ⟨rfl, rfl⟩))
          | (go_at_call 42; ((with_reducible refine (HAB.out _).mono ?_); rintro e w' ⟨rfl, rfl⟩))
          | (go_at_call 42; ((with_reducible refine (HBN.out _).mono ?_); rintro e w' ⟨rfl, rfl⟩))
          | (go_at_call 42; ((with_reducible refine (HBA.out _).mono ?_); rintro e w' ⟨rfl, rfl⟩))
          | (go_at_call 42; ((with_reducible refine (HNB.out _).mono ?_); rintro e w' ⟨rfl, rfl⟩)))
        all_goals go_ret
        all_goals (refine ⟨?_, HB.out⟩)
        all_goals first
          | rfl
          | (have q : ((1 ≤ a ∧ (a % 2 == 0) = false) ∧ 1 ≤ n) ∧ (n % 2 == 0) = false := by assumption
             first
               | (have g : (gcdI a n != 1) = true := by assumption
                  exact ret_bool' (rec0 q g))
               | (have g : (gcdI a n != 1) = false := by assumption
                  first
                    | (have h5 : (n % 4 == 3) = true := by assumption
                       exact ret_bool' (rec3 q g (by assumption) h5))
                    | (have h5 : (n % 4 == 3) = false := by assumption
                       exact ret_bool' (rec1 q g (.inr h5)))
                    | exact ret_bool' (rec1 q g (.inl (by assumption)))))
      · have zb : (b != 0) = true := by rw [bne_iff_ne]; exact hb
        have f2 := HF2.out ha hb
        clear ha hb
        go_enter Try.func10, Try.ntmps10
        go_wp2_with (first
          | (go_at_call 15; ((with_reducible refine (awake_any _).mono ?_); rintro e w1 ⟨rfl, hb1⟩; have HB := Lib.hid hb1; clear hb1))
          | (go_at_call 42; ((with_reducible refine (HK.out _).mono ?_); rintro e w' ⟨rfl, rfl⟩))
          | (go_at_call 42; ((with_reducible refine (HL.out _).mono ?_); rintro e w' ⟨rfl, rfl⟩))
          | (go_at_call 19; ((with_reducible refine (HG.out _).mono ?_); rintro e w' ⟨rfl, rfl⟩))
          | (go_at_call 42; ((with_reducible refine (HAB.out _).mono ?_); rintro e w' ⟨rfl, rfl⟩))
          | (go_at_call 42; ((with_reducible refine (HBN.out _).mono ?_); rintro e w' ⟨rfl, rfl⟩))
          | (go_at_call 42; ((with_reducible refine (HBA.out _).mono ?_); rintro e w' ⟨rfl, rfl⟩))
          | (go_at_call 42; ((with_reducible refine (HNB.out _).mono ?_); rintro e w' ⟨rfl, rfl⟩)))
        all_goals go_ret
        all_goals (refine ⟨?_, HB.out⟩)
        all_goals first
          | rfl
          | (have q : ((1 ≤ a ∧ (a % 2 == 0) = false) ∧ 1 ≤ n) ∧ (n % 2 == 0) = false := by assumption
             first
               | (have g : (gcdI a n != 1) = true := by assumption
                  exact ret_bool' (rec0 q g))
               | (have g : (gcdI a n != 1) = false := by assumption
                  first
                    | (have h5 : (n % 4 == 3) = true := by assumption
                       exact ret_bool' (rec3 q g (by assumption) h5))
                    | (have h5 : (n % 4 == 3) = false := by assumption
                       exact ret_bool' (rec1 q g (.inr h5)))
                    | exact ret_bool' (rec1 q g (.inl (by assumption)))))
  · have HNP := Lib.hid hP
    clear a1 a2 b1 b2 n1 n2 hP
    go_enter Try.func10, Try.ntmps10
    go_wp2_with (first
      | (go_at_call 15; ((with_reducible refine (awake_any _).mono ?_); rintro e w1 ⟨rfl, hb1⟩; have HB := Lib.hid hb1; clear hb1))
      | (go_at_call 42; ((with_reducible refine (HK.out _).mono ?_); rintro e w' ⟨rfl, rfl⟩))
      | (go_at_call 42; ((with_reducible refine (HL.out _).mono ?_); rintro e w' ⟨rfl, rfl⟩))
      | (go_at_call 19; ((with_reducible refine (HG.out _).mono ?_); rintro e w' ⟨rfl, rfl⟩))
      | (go_at_call 42; exact absurd ⟨by assumption, by assumption, by assumption, by assumption, by assumption⟩ HNP.out))
    all_goals go_ret
    all_goals (refine ⟨?_, HB.out⟩)
    all_goals first
      | rfl
      | (have q : ((1 ≤ a ∧ (a % 2 == 0) = false) ∧ 1 ≤ n) ∧ (n % 2 == 0) = false := by assumption
         first
           | (have g : (gcdI a n != 1) = true := by assumption
              exact ret_bool' (rec0 q g))
           | (have g : (gcdI a n != 1) = false := by assumption
              first
                | (have h5 : (n % 4 == 3) = true := by assumption
                   exact ret_bool' (rec3 q g (by assumption) h5))
                | (have h5 : (n % 4 == 3) = false := by assumption
                   exact ret_bool' (rec1 q g (.inr h5)))
                | exact ret_bool' (rec1 q g (.inl (by assumption)))))
end Go.Proofs.Ytoeailhcobbhjaa
