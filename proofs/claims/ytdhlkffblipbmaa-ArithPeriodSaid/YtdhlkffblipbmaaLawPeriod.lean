/- ArithPeriod answers true for all integers: what it does to the world. -/
import Derived.Test.YtdhlkffblipbmaaLawRecip
import Derived.Test.YtdhlkffblipbmaaLawDisc
namespace Go.Proofs.Ytdhlkffblipbmaa
open Go.RowKit

theorem jac_two_pow (k n : Nat) (hn : n % 2 = 1) : jac (2 ^ k) n = two8 n ^ k := by
  induction k with
  | zero =>
    rw [Nat.pow_zero, Int.pow_zero]
    have h1 : jac (1 * 1) n = jac 1 n * jac 1 n := jac_mul 1 1 n hn
    have h2 : jac 1 n ≠ 0 := by
      unfold jac
      rw [if_pos (Nat.gcd_one_left n)]
      split <;> decide
    rw [Nat.mul_one] at h1
    rcases jac_cases 1 n with h | h | h
    · exact absurd h h2
    · exact h
    · rw [h] at h1; omega
  | succ k ih => rw [Nat.pow_succ, jac_mul _ _ _ hn, ih, jac_two hn, Int.pow_succ]
theorem jac_one_left {n : Nat} (hn : n % 2 = 1) : jac 1 n = 1 := by
  have := jac_two_pow 0 n hn
  simpa using this
theorem t8_abs {D : Int} (h : D % 4 = 1) : t8 D = two8 D.natAbs := by
  unfold t8 two8
  have : (D % 8 = 1 ∨ D % 8 = 7) ↔ (D.natAbs % 8 = 1 ∨ D.natAbs % 8 = 7) := by omega
  simp only [this]
/-- An odd discriminant: the symbol is the Jacobi symbol of n modulo |D|. -/
theorem kron_disc1 {D n : Int} (hD : D % 4 = 1) (hn : 0 < n) : kron D n = jac n.natAbs D.natAbs := by
  obtain ⟨e, o, o1⟩ := strip_parts (r := n.natAbs) (by omega)
  rw [kron_def (by omega) (by omega), sg_pos hn, Int.one_mul]
  generalize (strip n.natAbs 2 n.natAbs).1 = k at *
  generalize (strip n.natAbs 2 n.natAbs).2 = m at *
  have hDo : D.natAbs % 2 = 1 := by omega
  rw [e, jac_mul _ _ _ hDo, jac_two_pow _ _ hDo, t8_abs hD]
  have : jacI D m = jac m D.natAbs := by
    unfold jacI
    rw [jac_recip o hDo]
    rcases Int.lt_or_le D 0 with h | h
    · by_cases h4 : m % 4 = 3
      · rw [if_pos ⟨h, h4⟩, if_pos (by omega)]; grind
      · rw [if_neg (by omega), if_neg (by omega)]; grind
    · rw [if_neg (by omega), if_neg (by omega)]; grind
  rw [this, Int.mul_comm]
/-- The symbol of an odd number at odd n hangs on n modulo 4 and modulo it. -/
theorem jacI_congr {m : Int} {n n' : Nat} (hm : m % 2 = 1) (h : n % 2 = 1) (h' : n' % 2 = 1) (h4 : n % 4 = n' % 4) (hmod : n % m.natAbs = n' % m.natAbs) : jacI m n = jacI m n' := by
  unfold jacI
  have hmo : m.natAbs % 2 = 1 := by omega
  rw [jac_recip h hmo, jac_recip h' hmo, jac_congr hmod, h4]
theorem jacI_four (m : Int) {n : Nat} (h : n % 2 = 1) : jacI (m * 4) n = jacI m n := by
  rw [show m * 4 = m * (2 * 2) by rfl, jacI_mul _ _ h, jacI_mul _ _ h]
  have e : jacI 2 n = two8 n := by
    rw [jacI_pos (by omega)]
    exact jac_two h
  rw [e]
  rcases two8_cases n with h | h <;> rw [h] <;> simp
theorem period {D n k : Int} {a : Nat} {s : Int} (hs : s = 1 ∨ s = -1) (ha : Sqf a) (ha1 : 1 ≤ a) (hn : 0 < n) (hk : 0 ≤ k)
    (h : (s * (a : Int) % 4 = 1 ∧ D = s * (a : Int)) ∨ (s * (a : Int) % 4 ≠ 1 ∧ D = s * (a : Int) * 4)) : kron D n = kron D (n + k * (D.natAbs : Int)) := by
  obtain ⟨g1, g2⟩ := sgn_of hs ha1
  have hkD : 0 ≤ k * (D.natAbs : Int) := Int.mul_nonneg hk (by omega)
  rcases h with ⟨h1, rfl⟩ | ⟨h1, rfl⟩
  · rw [kron_disc1 h1 hn, kron_disc1 h1 (by omega)]
    refine jac_congr ?_
    rw [g2] at hkD ⊢
    obtain ⟨n', rfl⟩ : ∃ n' : Nat, n = (n' : Int) := ⟨n.toNat, by omega⟩
    obtain ⟨k', rfl⟩ : ∃ k' : Nat, k = (k' : Int) := ⟨k.toNat, by omega⟩
    have e : ((n' : Int) + (k' : Int) * (a : Int)).natAbs = n' + a * k' := by
      rw [show (n' : Int) + (k' : Int) * (a : Int) = ((n' + a * k' : Nat) : Int) by rw [Int.natCast_add, Int.natCast_mul]; grind]
      rfl
    rw [e, Nat.add_mul_mod_self_left]
    rfl
  · have hD : (s * (a : Int) * 4).natAbs = a * 4 := by rw [Int.natAbs_mul, g2]; rfl
    rw [hD] at hkD ⊢
    obtain ⟨n', rfl⟩ : ∃ n' : Nat, n = (n' : Int) := ⟨n.toNat, by omega⟩
    obtain ⟨k', rfl⟩ : ∃ k' : Nat, k = (k' : Int) := ⟨k.toNat, by omega⟩
    have e : (n' : Int) + (k' : Int) * ((a * 4 : Nat) : Int) = ((n' + 4 * (a * k') : Nat) : Int) := by
      rw [Int.natCast_add, Int.natCast_mul, Int.natCast_mul, Int.natCast_mul]; grind
    rw [e]
    by_cases hodd : n' % 2 = 1
    · have ho2 : (n' + 4 * (a * k')) % 2 = 1 := by omega
      rw [kron_odd (by omega) (by omega), kron_odd (by omega) (by omega), Int.natAbs_natCast, Int.natAbs_natCast, jacI_four _ hodd, jacI_four _ ho2]
      have hsq : a % 4 ≠ 0 := fun h => by
        have := ha 2 (Nat.dvd_of_mod_eq_zero (by simpa using h))
        omega
      by_cases hao : a % 2 = 1
      · refine jacI_congr (by rcases hs with rfl | rfl <;> omega) hodd ho2 (by omega) ?_
        rw [g2, show n' + 4 * (a * k') = n' + a * (4 * k') by grind, Nat.add_mul_mod_self_left]
      · obtain ⟨c, rfl⟩ : ∃ c, a = 2 * c := ⟨a / 2, by omega⟩
        have hc : c % 2 = 1 := by omega
        have e2 : s * ((2 * c : Nat) : Int) = 2 * (s * (c : Int)) := by rw [Int.natCast_mul]; grind
        obtain ⟨_, gc⟩ := sgn_of hs (a := c) (by omega)
        rw [e2, jacI_mul _ _ hodd, jacI_mul _ _ ho2]
        have t : ∀ m : Nat, m % 2 = 1 → jacI 2 m = two8 m := fun m hm => by
          rw [jacI_pos (by omega)]
          exact jac_two hm
        rw [t _ hodd, t _ ho2]
        have e8 : two8 (n' + 4 * (2 * c * k')) = two8 n' := by
          unfold two8
          rw [show n' + 4 * (2 * c * k') = n' + 8 * (c * k') by grind, Nat.add_mul_mod_self_left]
        rw [e8]
        congr 1
        refine jacI_congr (by rcases hs with rfl | rfl <;> omega) hodd ho2 (by omega) ?_
        rw [gc, show n' + 4 * (2 * c * k') = n' + c * (8 * k') by grind, Nat.add_mul_mod_self_left]
    · rw [kron_two (by omega) (by omega), kron_two (by omega) (by omega)]
theorem period_law {d D f n k : Int} (hd : d ≠ 0) (h : FundIs d D f) (hn : 0 < n) (hk : 0 ≤ k) : kron D n = kron D (n + k * (D.natAbs : Int)) := by
  obtain ⟨_, hsq, ha, _⟩ := fund_free (n := d.natAbs) (by omega)
  refine period (sgn_cases d) hsq ha hn hk ?_
  rcases h with ⟨h1, h2, _⟩ | ⟨h1, h2, _⟩
  · exact .inl ⟨h1, h2⟩
  · exact .inr ⟨h1, h2⟩

set_option maxHeartbeats 1600000 in
set_option maxRecDepth 1000000 in
theorem period_walk (d n k : Int) (w : World) (_ : -9223372036854775808 ≤ d) (_ : d ≤ 9223372036854775807) (_ : -9223372036854775808 ≤ n) (_ : n ≤ 9223372036854775807) (_ : -9223372036854775808 ≤ k) (_ : k ≤ 9223372036854775807) :
    Calls Try.prog 11 #[.int .i64 d, .int .i64 n, .int .i64 k] w fun e w' => e = .returned (.bool true) ∧ Below w.heap.size w w' := by
  have HG := Lib.hid (fun W => refFund_all d W)
  go_enter Try.func11, Try.ntmps11
  go_wp2_with (first
    | (go_at_call 15; ((with_reducible refine (awake_any _).mono ?_); rintro e w1 ⟨rfl, hb1⟩; have HB := Lib.hid hb1; have hs1 := hb1.size; clear hb1))
    | (go_at_call 41; fail))
  refine (HG.out _).mono ?_
  rintro e w2 ⟨disc, f, e0, rfl, hr, hb2⟩
  have HR := Lib.hid hr
  have HB2 := Lib.hid (HB.out.trans (hb2.mono hs1))
  clear hr hb2 HG
  by_cases he : e0 = 0
  · obtain ⟨hok, h4, hfi⟩ := HR.out.ok he
    subst he
    obtain ⟨l1, l2, l3, l4, l5, l6, l7, l8⟩ := fund_law hok.1 h4 hfi
    have hd1 : -2147483647 ≤ disc ∧ disc ≤ 2147483647 := by have := hok.2; omega
    obtain ⟨d1, d2⟩ := hd1
    by_cases hq : 1 ≤ n ∧ n ≤ 1099511627776 ∧ 0 ≤ k ∧ k ≤ 1048576
    · obtain ⟨q1, q2, q3, q4⟩ := hq
      clear h4
      rcases Int.lt_or_le disc 0 with hneg | hneg
      · skip
        have hm1 : 0 ≤ k * (-disc) := Int.mul_nonneg (by omega) (by omega)
        have hm2 : k * (-disc) ≤ 1048576 * 2147483647 := Int.mul_le_mul (by omega) (by omega) (by omega) (by omega)
        have HK1 := Lib.hid (fun W => kron_any disc n W (by omega) (by omega) (by omega) (by omega))
        have HK2 := Lib.hid (fun W => kron_any disc (n + k * (-disc)) W (by omega) (by omega) (by omega) (by omega))
        have HEQ : Hid ((kron disc n == kron disc (n + k * (-disc))) = true) := by
          show _ = _
          have := period_law (n := n) (k := k) hok.1 hfi (by omega) (by omega)
          rw [show (disc.natAbs : Int) = -disc by omega] at this
          rw [beq_iff_eq]; exact this
        clear hok hfi l1 l2 l3 l4 l5 l6 l7 l8
        go_wp2_with (first
          | (go_at_call 42; ((with_reducible refine (HK1.out _).mono ?_); rintro e w' ⟨rfl, rfl⟩))
          | (go_at_call 42; ((with_reducible refine (HK2.out _).mono ?_); rintro e w' ⟨rfl, rfl⟩)))
        go_ret
        exact ⟨ret_bool' HEQ.out, HB2.out⟩

      · skip
        have hm1 : 0 ≤ k * (disc) := Int.mul_nonneg (by omega) (by omega)
        have hm2 : k * (disc) ≤ 1048576 * 2147483647 := Int.mul_le_mul (by omega) (by omega) (by omega) (by omega)
        have HK1 := Lib.hid (fun W => kron_any disc n W (by omega) (by omega) (by omega) (by omega))
        have HK2 := Lib.hid (fun W => kron_any disc (n + k * (disc)) W (by omega) (by omega) (by omega) (by omega))
        have HEQ : Hid ((kron disc n == kron disc (n + k * (disc))) = true) := by
          show _ = _
          have := period_law (n := n) (k := k) hok.1 hfi (by omega) (by omega)
          rw [show (disc.natAbs : Int) = disc by omega] at this
          rw [beq_iff_eq]; exact this
        clear hok hfi l1 l2 l3 l4 l5 l6 l7 l8
        go_wp2_with (first
          | (go_at_call 42; ((with_reducible refine (HK1.out _).mono ?_); rintro e w' ⟨rfl, rfl⟩))
          | (go_at_call 42; ((with_reducible refine (HK2.out _).mono ?_); rintro e w' ⟨rfl, rfl⟩)))
        go_ret
        exact ⟨ret_bool' HEQ.out, HB2.out⟩

    · have HQ := Lib.hid hq
      clear hok h4 hfi l1 l2 l3 l4 l5 l6 l7 l8 hq
      go_wp2_with (go_at_call 42; exact absurd (by omega) HQ.out)
      all_goals go_ret
      all_goals exact ⟨rfl, HB2.out⟩
  · have he1 : (e0 != 0) = true := by rw [bne_iff_ne]; exact he
    clear he
    go_wp2
    all_goals go_ret
    all_goals exact ⟨rfl, HB2.out⟩
end Go.Proofs.Ytdhlkffblipbmaa
