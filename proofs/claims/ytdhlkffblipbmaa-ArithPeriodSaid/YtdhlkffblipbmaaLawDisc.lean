/- ArithDiscriminants answers true for all integers: what it does to the world. -/
import Derived.Test.YtdhlkffblipbmaaRefFund
import Derived.Test.YtdhlkffblipbmaaAwake
namespace Go.Proofs.Ytdhlkffblipbmaa
open Go.RowKit

theorem fund_free {n : Nat} (hn : 1 ≤ n) : freeOf (facs 2 n) * (rootOf (facs 2 n) * rootOf (facs 2 n)) = n ∧ Sqf (freeOf (facs 2 n)) ∧ 1 ≤ freeOf (facs 2 n) ∧ 1 ≤ rootOf (facs 2 n) := by
  have h := facs_two_is hn
  have hpr : ∀ p ∈ facs 2 n, Pr p.1 := fun p hp => (h.mem p hp).1
  have hm := h.mul
  rw [parts_mul] at hm
  exact ⟨hm, free_sqf hpr h.asc, freeOf_pos hpr⟩
theorem sgn_mul {d : Int} : d = sgn d * (d.natAbs : Int) := by unfold sgn; split <;> omega
theorem sgn_cases (d : Int) : sgn d = 1 ∨ sgn d = -1 := by unfold sgn; split <;> omega
theorem sgn_of {s : Int} (hs : s = 1 ∨ s = -1) {a : Nat} (ha : 1 ≤ a) : sgn (s * (a : Int)) = s ∧ (s * (a : Int)).natAbs = a := by
  rcases hs with rfl | rfl
  · unfold sgn; split <;> omega
  · unfold sgn; split <;> omega
/-- In the second case the root is even. -/
theorem root_even {d : Int} {a b : Nat} (h4 : d % 4 < 2) (hd : d = sgn d * ((a * (b * b) : Nat) : Int)) (ha : Sqf a) (h1 : sgn d * (a : Int) % 4 ≠ 1) : b % 2 = 0 := by
  refine Classical.byContradiction fun h => ?_
  obtain ⟨t, rfl⟩ : ∃ t, b = 2 * t + 1 := ⟨b / 2, by omega⟩
  have e : (2 * t + 1) * (2 * t + 1) = 4 * (t * t + t) + 1 := by grind
  rw [e] at hd
  have e2 : sgn d * ((a * (4 * (t * t + t) + 1) : Nat) : Int) = sgn d * (a : Int) + 4 * (sgn d * ((a * (t * t + t) : Nat) : Int)) := by
    rw [show a * (4 * (t * t + t) + 1) = a + 4 * (a * (t * t + t)) by grind, Int.natCast_add, Int.mul_add, Int.natCast_mul 4]
    grind
  rw [e2] at hd
  have hm : d % 4 = sgn d * (a : Int) % 4 := by
    conv => lhs; rw [hd]
    rw [Int.add_mul_emod_self_left]
  have h0 : 0 ≤ d % 4 := Int.emod_nonneg _ (by omega)
  have hz : sgn d * (a : Int) % 4 = 0 := by omega
  have hz2 : a % 4 = 0 := by rcases sgn_cases d with h | h <;> rw [h] at hz <;> omega
  have := ha 2 (Nat.dvd_of_mod_eq_zero (by simpa using hz2))
  omega
theorem fund_law {d disc f : Int} (hd0 : d ≠ 0) (h4 : d % 4 < 2) (h : FundIs d disc f) :
    disc * f * f = d ∧ disc ≠ 0 ∧ disc.natAbs ≤ d.natAbs ∧ disc % 4 < 2 ∧ FundIs disc disc 1 ∧ 1 ≤ f ∧ f.natAbs ≤ d.natAbs ∧ (disc * f).natAbs ≤ d.natAbs := by
  have hn : 1 ≤ d.natAbs := by omega
  obtain ⟨hm, hsq, ha, hb⟩ := fund_free hn
  have hs := sgn_cases d
  have hd := sgn_mul (d := d)
  have hev := root_even (d := d) (a := freeOf (facs 2 d.natAbs)) (b := rootOf (facs 2 d.natAbs)) h4 (by rw [hm]; exact hd) hsq
  unfold FundIs at h
  generalize hA : freeOf (facs 2 d.natAbs) = a at *
  generalize hB : rootOf (facs 2 d.natAbs) = b at *
  have hab : a * b ≤ d.natAbs := by rw [← hm]; exact Nat.mul_le_mul_left a (Nat.le_mul_of_pos_left b hb)
  have hbn : b ≤ d.natAbs := Nat.le_trans (Nat.le_mul_of_pos_left b ha) hab
  have han : a ≤ d.natAbs := Nat.le_trans (Nat.le_mul_of_pos_right a hb) hab
  have hdd : d = sgn d * ((a : Int) * ((b : Int) * (b : Int))) := by
    conv => lhs; rw [hd]
    rw [← hm]
    simp
  generalize sgn d = s at *
  rcases h with ⟨h1, rfl, rfl⟩ | ⟨h1, rfl, rfl⟩
  · obtain ⟨g1, g2⟩ := sgn_of hs ha
    refine ⟨by conv => rhs; rw [hdd]
               grind, ?_, ?_, by omega, ?_, by omega, by omega, ?_⟩
    · intro h; rw [h] at g2; simp at g2; omega
    · rw [g2]; exact han
    · obtain ⟨km, ksq, ka, kb⟩ := fund_free ha
      obtain ⟨u1, u2⟩ := sqf_unique ksq hsq kb (show freeOf (facs 2 a) * (rootOf (facs 2 a) * rootOf (facs 2 a)) = a * (1 * 1) by rw [km]; omega)
      refine .inl ⟨?_, ?_, ?_⟩
      · rw [g1, g2, u1]; exact h1
      · rw [g1, g2, u1]
      · rw [g2, u2]; rfl
    · rw [Int.natAbs_mul, g2]; simpa using hab
  · have he := hev h1
    obtain ⟨c, rfl⟩ : ∃ c, b = 2 * c := ⟨b / 2, by omega⟩
    have hc : ((2 * c : Nat) : Int) / 2 = (c : Int) := by omega
    rw [hc]
    obtain ⟨g1, g2⟩ := sgn_of hs (a := a * 4) (by omega)
    have e4 : s * (a : Int) * 4 = s * ((a * 4 : Nat) : Int) := by rw [Int.natCast_mul, Int.mul_assoc]; rfl
    rw [e4]
    have hca : a * 4 ≤ d.natAbs := by
      rw [← hm]
      exact Nat.mul_le_mul_left a (by
        have : 2 * 2 ≤ 2 * c * (2 * c) := Nat.mul_le_mul (by omega) (by omega)
        omega)
    refine ⟨by conv => rhs; rw [hdd]
               rw [Int.natCast_mul, Int.natCast_mul]
               grind, ?_, ?_, ?_, ?_, by omega, by omega, ?_⟩
    · intro h; rw [h] at g2; simp at g2; omega
    · rw [g2]; exact hca
    · rw [← e4, show s * (a : Int) * 4 = 4 * (s * (a : Int)) by rw [Int.mul_comm], Int.mul_emod_right]; omega
    · obtain ⟨km, ksq, ka, kb⟩ := fund_free (n := a * 4) (by omega)
      obtain ⟨u1, u2⟩ := sqf_unique ksq hsq kb (show freeOf (facs 2 (a * 4)) * (rootOf (facs 2 (a * 4)) * rootOf (facs 2 (a * 4))) = a * (2 * 2) by rw [km])
      refine .inr ⟨?_, ?_, ?_⟩
      · rw [g1, g2, u1]; exact h1
      · rw [g1, g2, u1, e4]
      · rw [g2, u2]; rfl
    · rw [Int.natAbs_mul, g2]
      have : a * 4 * c ≤ a * (2 * c * (2 * c)) := by
        have : c ≤ c * c := Nat.le_mul_of_pos_left c (by omega)
        have h3 : a * (2 * c * (2 * c)) = a * 4 * (c * c) := by grind
        rw [h3]
        exact Nat.mul_le_mul_left _ this
      rw [← hm]
      simpa using this

/-- Where Fundamental answers no error; what it answers. -/
def okD (d : Int) : Prop := d ≠ 0 ∧ d.natAbs ≤ 2147483647
def FundR (d disc f e : Int) : Prop :=
  (okD d ∧ d % 4 < 2 ∧ FundIs d disc f ∧ e = 0) ∨ (¬ okD d ∧ disc = 0 ∧ f = 0 ∧ e = 2) ∨ (okD d ∧ ¬ d % 4 < 2 ∧ disc = 0 ∧ f = 0 ∧ e = 15)
theorem FundR.unique {d x f e y g i : Int} (h : FundR d x f e) (k : FundR d y g i) : x = y ∧ f = g ∧ e = i := by
  rcases h with ⟨h0, h1, h2, rfl⟩ | ⟨h0, rfl, rfl, rfl⟩ | ⟨h0, h1, rfl, rfl, rfl⟩ <;> rcases k with ⟨k0, k1, k2, rfl⟩ | ⟨k0, rfl, rfl, rfl⟩ | ⟨k0, k1, rfl, rfl, rfl⟩
  all_goals first
    | exact ⟨rfl, rfl, rfl⟩
    | exact absurd h0 k0
    | exact absurd k0 h0
    | exact absurd h1 k1
    | exact absurd k1 h1
    | exact ⟨(h2.unique k2).1, (h2.unique k2).2, rfl⟩

set_option maxHeartbeats 800000 in
theorem fund_bad (d : Int) (w : World) (d1 : -9223372036854775808 ≤ d) (d2 : d ≤ 9223372036854775807) (h : ¬ okD d) :
    Calls Try.prog 40 #[.int .i64 d] w fun e w' => e = .returned (.tuple #[.int .i64 0, .int .i64 0, .int .i64 2]) ∧ Below w.heap.size w w' := by
  by_cases h0 : d = 0
  · subst h0
    clear h d1 d2
    go_enter Try.func40, Try.ntmps40
    go_wp2
    exact bodyPost_ret (results_tmp3 rfl _ _ _) rfl ⟨rfl, Below.refl _ _⟩
  · have hb : (d == 0) = false := by simpa using h0
    have hn : 2147483647 < (d.natAbs : Int) := by unfold okD at h; omega
    have HA := Lib.hid (absolute_any d w d1 d2)
    clear h h0 d1 d2
    go_enter Try.func40, Try.ntmps40
    go_wp2_with (go_at_call 56; ((with_reducible refine HA.out.mono ?_); rintro e w' ⟨rfl, rfl⟩))
    exact bodyPost_ret (results_tmp3 rfl _ _ _) rfl ⟨rfl, Below.refl _ _⟩
set_option maxHeartbeats 800000 in
theorem refFund_bad (d : Int) (w : World) (h : ¬ okD d) :
    Calls Try.prog 41 #[.int .i64 d] w fun e w' => e = .returned (.tuple #[.int .i64 0, .int .i64 0, .int .i64 2]) ∧ Below w.heap.size w w' := by
  have hc : d = 0 ∨ (d ≠ 0 ∧ 2147483647 < d) ∨ (d ≠ 0 ∧ d < -2147483647) := by unfold okD at h; omega
  clear h
  rcases hc with rfl | ⟨h0, h1⟩ | ⟨h0, h1⟩
  · go_enter Try.func41, Try.ntmps41
    go_wp2
    exact bodyPost_ret (results_tmp3 rfl _ _ _) rfl ⟨rfl, Below.refl _ _⟩
  · have hb : (d == 0) = false := by simpa using h0
    clear h0
    go_enter Try.func41, Try.ntmps41
    go_wp2
    exact bodyPost_ret (results_tmp3 rfl _ _ _) rfl ⟨rfl, Below.refl _ _⟩
  · have hb : (d == 0) = false := by simpa using h0
    clear h0
    go_enter Try.func41, Try.ntmps41
    go_wp2
    exact bodyPost_ret (results_tmp3 rfl _ _ _) rfl ⟨rfl, Below.refl _ _⟩
set_option maxHeartbeats 800000 in
theorem fund_mod (d : Int) (w : World) (h : okD d) (h4 : ¬ d % 4 < 2) :
    Calls Try.prog 40 #[.int .i64 d] w fun e w' => e = .returned (.tuple #[.int .i64 0, .int .i64 0, .int .i64 15]) ∧ Below w.heap.size w w' := by
  obtain ⟨h0, h1⟩ := h
  have hb : (d == 0) = false := by simpa using h0
  have HA := Lib.hid (absolute_any d w (by omega) (by omega))
  have h2 : (d.natAbs : Int) ≤ 2147483647 := by omega
  have h5 : 2 ≤ d % 4 := by omega
  clear h0 h1 h4
  go_enter Try.func40, Try.ntmps40
  go_wp2_with (first | (go_at_call 56; ((with_reducible refine HA.out.mono ?_); rintro e w' ⟨rfl, rfl⟩)) | (go_at_call 71; ((with_reducible refine (residue_any _ _ _ (by omega) (by omega)).mono ?_); rintro e w' ⟨rfl, rfl⟩)))
  exact bodyPost_ret (results_tmp3 rfl _ _ _) rfl ⟨rfl, Below.refl _ _⟩
set_option maxHeartbeats 800000 in
theorem refFund_mod (d : Int) (w : World) (h : okD d) (h4 : ¬ d % 4 < 2) :
    Calls Try.prog 41 #[.int .i64 d] w fun e w' => e = .returned (.tuple #[.int .i64 0, .int .i64 0, .int .i64 15]) ∧ Below w.heap.size w w' := by
  obtain ⟨h0, h1⟩ := h
  have hb : (d == 0) = false := by simpa using h0
  have h2 : -2147483647 ≤ d := by omega
  have h3 : d ≤ 2147483647 := by omega
  have h5 : 1 < d % 4 := by omega
  clear h0 h1 h4
  go_enter Try.func41, Try.ntmps41
  go_wp2_with (first | (go_at_call 50; ((with_reducible refine (refMod_any _ _ _ (by omega) (by omega)).mono ?_); rintro e w' ⟨rfl, rfl⟩)))
  exact bodyPost_ret (results_tmp3 rfl _ _ _) rfl ⟨rfl, Below.refl _ _⟩
theorem fund_all (d : Int) (w : World) (d1 : -9223372036854775808 ≤ d) (d2 : d ≤ 9223372036854775807) :
    Calls Try.prog 40 #[.int .i64 d] w fun e w' => ∃ disc f e0 : Int, e = .returned (.tuple #[.int .i64 disc, .int .i64 f, .int .i64 e0]) ∧ FundR d disc f e0 ∧ Below w.heap.size w w' := by
  by_cases h : okD d
  · by_cases h4 : d % 4 < 2
    · have h5 : (d.natAbs : Int) ≤ 2147483647 := by have := h.2; omega
      exact (fund_F d (sgn d) d.natAbs (facs 2 d.natAbs) w rfl h.1 rfl h5 rfl h4).mono fun e w' ⟨disc, f, he, hf, hb⟩ => ⟨disc, f, 0, he, .inl ⟨h, h4, hf, rfl⟩, hb⟩
    · exact (fund_mod d w h h4).mono fun e w' ⟨he, hb⟩ => ⟨0, 0, 15, he, .inr (.inr ⟨h, h4, rfl, rfl, rfl⟩), hb⟩
  · exact (fund_bad d w d1 d2 h).mono fun e w' ⟨he, hb⟩ => ⟨0, 0, 2, he, .inr (.inl ⟨h, rfl, rfl, rfl⟩), hb⟩
theorem refFund_all (d : Int) (w : World) :
    Calls Try.prog 41 #[.int .i64 d] w fun e w' => ∃ disc f e0 : Int, e = .returned (.tuple #[.int .i64 disc, .int .i64 f, .int .i64 e0]) ∧ FundR d disc f e0 ∧ Below w.heap.size w w' := by
  by_cases h : okD d
  · by_cases h4 : d % 4 < 2
    · have h5 : (d.natAbs : Int) ≤ 2147483647 := by have := h.2; omega
      exact (refFund_F d (sgn d) d.natAbs (facs 2 d.natAbs) w rfl h.1 rfl h5 rfl h4).mono fun e w' ⟨disc, f, he, hf, hb⟩ => ⟨disc, f, 0, he, .inl ⟨h, h4, hf, rfl⟩, hb⟩
    · exact (refFund_mod d w h h4).mono fun e w' ⟨he, hb⟩ => ⟨0, 0, 15, he, .inr (.inr ⟨h, h4, rfl, rfl, rfl⟩), hb⟩
  · exact (refFund_bad d w h).mono fun e w' ⟨he, hb⟩ => ⟨0, 0, 2, he, .inr (.inl ⟨h, rfl, rfl, rfl⟩), hb⟩
theorem FundR.ok {d disc f e : Int} (h : FundR d disc f e) (he : e = 0) : okD d ∧ d % 4 < 2 ∧ FundIs d disc f := by
  rcases h with ⟨h0, h1, h2, _⟩ | ⟨_, _, _, h⟩ | ⟨_, _, _, _, h⟩
  · exact ⟨h0, h1, h2⟩
  · omega
  · omega

set_option maxHeartbeats 1600000 in
set_option maxRecDepth 1000000 in
theorem disc_walk (d : Int) (w : World) (d1 : -9223372036854775808 ≤ d) (d2 : d ≤ 9223372036854775807) :
    Calls Try.prog 8 #[.int .i64 d] w fun e w' => e = .returned (.bool true) ∧ Below w.heap.size w w' := by
  have HF := Lib.hid (fun W => fund_all d W d1 d2)
  have HG := Lib.hid (fun W => refFund_all d W)
  clear d1 d2
  go_enter Try.func8, Try.ntmps8
  go_wp2_with (first
    | (go_at_call 15; ((with_reducible refine (awake_any _).mono ?_); rintro e w1 ⟨rfl, hb1⟩; have HB := Lib.hid hb1; have hs1 := hb1.size; clear hb1))
    | (go_at_call 40; fail))
  refine (HF.out _).mono ?_
  rintro e w2 ⟨disc, f, e0, rfl, hr, hb2⟩
  have HR := Lib.hid hr
  have hs2 := hb2.size
  have HB2 := Lib.hid (HB.out.trans (hb2.mono hs1))
  clear hr hb2
  by_cases he : e0 = 0
  · obtain ⟨o1, o2, o3⟩ := HR.out.ok he
    subst he
    obtain ⟨l1, l2, l3, l4, l5, l6, l7, l8⟩ := fund_law o1.1 o2 o3
    have HE := Lib.hid l1
    have HD2 : Hid (FundR disc disc 1 0) := .inl ⟨⟨l2, Nat.le_trans l3 o1.2⟩, l4, l5, rfl⟩
    have h8 : -2147483647 ≤ disc * f ∧ disc * f ≤ 2147483647 := by have := o1.2; omega
    have h9 : -2147483647 ≤ disc * f * f ∧ disc * f * f ≤ 2147483647 := by rw [l1]; have := o1.2; omega
    have h10 : -2147483647 ≤ disc ∧ disc ≤ 2147483647 := by have := o1.2; omega
    have HF2 := Lib.hid (fun W => fund_all disc W (by omega) (by omega))
    have hbe : (disc * f * f == d) = true := by rw [beq_iff_eq]; exact l1
    obtain ⟨h81, h82⟩ := h8
    obtain ⟨h91, h92⟩ := h9
    clear o1 o2 o3 l1 l2 l3 l4 l5 l7 l8
    go_wp2_with (first
      | (go_at_call 41; ((with_reducible refine (HG.out _).mono ?_); rintro e w3 ⟨x, y, z, rfl, hr, hb3⟩; obtain ⟨rfl, rfl, rfl⟩ := HR.out.unique hr; have hs3 := hb3.size; have HB3 := Lib.hid (HB2.out.trans (hb3.mono (Nat.le_trans hs1 hs2))); clear hr hb3))
      | (go_at_call 40; ((with_reducible refine (HF2.out _).mono ?_); rintro e w4 ⟨x, y, z, rfl, hr, hb4⟩; obtain ⟨rfl, rfl, rfl⟩ := HD2.out.unique hr; have HB4 := Lib.hid (HB3.out.trans (hb4.mono (Nat.le_trans hs1 (Nat.le_trans hs2 hs3)))); clear hr hb4)))
    go_ret
    exact ⟨rfl, HB4.out⟩
  · have he1 : (e0 != 0) = true := by rw [bne_iff_ne]; exact he
    go_wp2_with (go_at_call 41; ((with_reducible refine (HG.out _).mono ?_); rintro e w3 ⟨x, y, z, rfl, hr, hb3⟩; obtain ⟨rfl, rfl, rfl⟩ := HR.out.unique hr; have hs3 := hb3.size; have HB3 := Lib.hid (HB2.out.trans (hb3.mono (Nat.le_trans hs1 hs2))); clear hr hb3))
    go_ret
    exact ⟨rfl, HB3.out⟩
end Go.Proofs.Ytdhlkffblipbmaa
