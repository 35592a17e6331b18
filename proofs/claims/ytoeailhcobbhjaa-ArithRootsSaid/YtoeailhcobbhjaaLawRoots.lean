/- ArithRoots answers true for all integers: what it does to the world. -/
import Derived.Test.YtoeailhcobbhjaaTonelli
import Derived.Test.YtoeailhcobbhjaaAwake
import Derived.Test.YtoeailhcobbhjaaRefKronC
namespace Go.Proofs.Ytoeailhcobbhjaa
open Go.RowKit

/-- What SqrtMod answers for a prime. -/
def SqIs (a : Int) (p : Nat) (x : Int) (ok : Bool) : Prop := (ok = true ∧ (p = 2 ∨ 0 ≤ kron a p) ∧ 0 ≤ x ∧ x ≤ (p : Int) / 2 ∧ x * x % (p : Int) = a % (p : Int)) ∨ (ok = false ∧ p ≠ 2 ∧ kron a p < 0 ∧ x = 0)
def SqRet (a : Int) (p : Nat) (w : World) (e : Ending) (w' : World) : Prop := ∃ (x : Int) (ok : Bool), e = .returned (.tuple #[.int .i64 x, .bool ok, .int .i64 0]) ∧ SqIs a p x ok ∧ w = w'
theorem sq_same {p : Nat} {s r a : Int} (hs : s = a % (p : Int)) (hr : (p : Int) ∣ r * r - s) : r * r % (p : Int) = a % (p : Int) ∧ ((p : Int) - r) * ((p : Int) - r) % (p : Int) = a % (p : Int) := by
  have e : s % (p : Int) = a % (p : Int) := by rw [hs, Int.emod_emod]
  rw [← e, emod_eq_iff_dvd, emod_eq_iff_dvd]
  refine ⟨hr, ?_⟩
  have : ((p : Int) - r) * ((p : Int) - r) - s = r * r - s + (p : Int) * ((p : Int) - 2 * r) := by grind
  rw [this]
  exact Int.dvd_add hr (Int.dvd_mul_right _ _)
set_option maxHeartbeats 1600000 in
theorem sqrtMod_two (a : Int) (w : World) :
    Calls Try.prog 54 #[.int .i64 a, .int .i64 2] w fun e w' => e = .returned (.tuple #[.int .i64 (a % 2), .bool true, .int .i64 0]) ∧ w = w' := by
  have HCP : Hid (∀ W : World, Calls Try.prog 77 #[.int .i64 2] W fun e w' => e = .returned (.int .i64 0) ∧ W = w') := fun W => checkPrime_any 2 0 W (.inr ⟨⟨by omega, by omega⟩, .inl ⟨pr2, rfl⟩⟩)
  have HRS := Lib.hid (fun W => residue_any a 2 W (by omega) (by omega))
  go_enter Try.func54, Try.ntmps54
  go_wp2_with (first
    | (go_at_call 77; ((with_reducible refine (HCP.out _).mono ?_); rintro e w' ⟨rfl, rfl⟩))
    | (go_at_call 71; ((with_reducible refine (HRS.out _).mono ?_); rintro e w' ⟨rfl, rfl⟩)))
  refine bodyPost_ret (results_tmp3 rfl _ _ _) rfl ?_
  exact ⟨rfl, rfl⟩
theorem sq_two (a : Int) : SqIs a 2 (a % 2) true := by
  refine .inl ⟨rfl, .inl rfl, by omega, by omega, ?_⟩
  show a % 2 * (a % 2) % 2 = a % 2
  rcases (show a % 2 = 0 ∨ a % 2 = 1 by omega) with h | h <;> rw [h] <;> rfl

set_option maxHeartbeats 1600000 in
set_option maxRecDepth 1000000 in
theorem sqrtMod_any (a : Int) (p : Nat) (w : World) (hp : Pr p) (hp2 : (p : Int) ≤ 2147483647) :
    Calls Try.prog 54 #[.int .i64 a, .int .i64 p] w (SqRet a p w) := by
  have hp0 := hp.1
  have HCP := Lib.hid (fun W => checkPrime_yes p W hp hp2)
  have HRS := Lib.hid (fun W => residue_any a p W (by omega) (by omega))
  have s0 := Int.emod_nonneg a (show (p : Int) ≠ 0 by omega)
  have s1 := Int.emod_lt_of_pos a (show 0 < (p : Int) by omega)
  by_cases h2 : p = 2
  · subst h2
    exact (sqrtMod_two a w).mono fun e w' ⟨he, hw⟩ => ⟨_, _, he, sq_two a, hw⟩
  · have hb2 : ((p : Int) == 2) = false := by rw [beq_eq_false_iff_ne]; omega
    by_cases hz : a % (p : Int) = 0
    · have HV : Hid (SqIs a p 0 true) := by
        refine .inl ⟨rfl, .inr ?_, by omega, by omega, by rw [hz]; simp⟩
        rw [(zero_of_kron hp h2).2 (Int.dvd_of_emod_eq_zero hz)]
        exact Int.le_refl _
      rw [hz] at HRS
      clear hz s0 s1 h2 hp
      go_enter Try.func54, Try.ntmps54
      go_wp2_with (first
        | (go_at_call 77; ((with_reducible refine (HCP.out _).mono ?_); rintro e w' ⟨rfl, rfl⟩))
        | (go_at_call 71; ((with_reducible refine (HRS.out _).mono ?_); rintro e w' ⟨rfl, rfl⟩)))
      refine bodyPost_ret (results_tmp3 rfl _ _ _) rfl ?_
      exact ⟨_, _, rfl, HV.out, rfl⟩
    · obtain ⟨s, hs⟩ : ∃ s : Nat, a % (p : Int) = (s : Int) := ⟨(a % (p : Int)).toNat, by omega⟩
      have hs1 : 1 ≤ s := by omega
      have hsp : s < p := by omega
      have hbz : ((s : Int) == 0) = false := by rw [beq_eq_false_iff_ne]; omega
      have hke : kron (s : Int) p = kron a p := by rw [← hs]; exact kron_emod hp h2
      rw [hs] at HRS
      have HK := Lib.hid (fun W => kron_any (s : Int) p W (by omega) (by omega) (by omega) (by omega))
      have HS := Lib.hid hs
      by_cases hk : kron (s : Int) p = 1
      · have HT := Lib.hid (fun W => tonelli_any s p W hp h2 hp2 hsp (one_of_kron hp h2 hk))
        have hk2 : (kron (s : Int) p != 1) = false := by rw [bne_eq_false_iff_eq]; exact hk
        have HKA : Hid (0 ≤ kron a p) := by show _ ≤ _; rw [← hke, hk]; omega
        clear hz s0 s1 h2 hp hs hk hke
        generalize kron (s : Int) p = kc at *
        go_enter Try.func54, Try.ntmps54
        go_wp2_with (first
          | (go_at_call 77; ((with_reducible refine (HCP.out _).mono ?_); rintro e w' ⟨rfl, rfl⟩))
          | (go_at_call 71; ((with_reducible refine (HRS.out _).mono ?_); rintro e w' ⟨rfl, rfl⟩))
          | (go_at_call 42; ((with_reducible refine (HK.out _).mono ?_); rintro e w' ⟨rfl, rfl⟩))
          | (go_at_call 79; ((with_reducible refine (HT.out _).mono ?_); rintro e w' ⟨r, rfl, ⟨r0, r1, hr⟩, rfl⟩; have HR := Lib.hid hr; clear hr)))
        all_goals
          refine bodyPost_ret (results_tmp3 rfl _ _ _) rfl ?_
          obtain ⟨m1, m2⟩ := sq_same HS.out.symm HR.out
          first
            | exact ⟨r, true, rfl, .inl ⟨rfl, .inr HKA.out, r0, by omega, m1⟩, rfl⟩
            | exact ⟨(p : Int) - r, true, rfl, .inl ⟨rfl, .inr HKA.out, by omega, by omega, m2⟩, rfl⟩
      · have hk2 : (kron (s : Int) p != 1) = true := by rw [bne_iff_ne]; exact hk
        have HV : Hid (SqIs a p 0 false) := by
          refine .inr ⟨rfl, h2, ?_, rfl⟩
          have h0 : ¬ kron (s : Int) p = 0 := fun h => not_dvd_small hs1 hsp ((zero_of_kron hp h2).1 h)
          have := jacI_cases (p := p) (s : Int) h2
          rw [← kron_pr hp h2] at this
          omega
        clear hz s0 s1 h2 hp hs hk hke
        generalize kron (s : Int) p = kc at *
        go_enter Try.func54, Try.ntmps54
        go_wp2_with (first
          | (go_at_call 77; ((with_reducible refine (HCP.out _).mono ?_); rintro e w' ⟨rfl, rfl⟩))
          | (go_at_call 71; ((with_reducible refine (HRS.out _).mono ?_); rintro e w' ⟨rfl, rfl⟩))
          | (go_at_call 42; ((with_reducible refine (HK.out _).mono ?_); rintro e w' ⟨rfl, rfl⟩)))
        refine bodyPost_ret (results_tmp3 rfl _ _ _) rfl ?_
        exact ⟨_, _, rfl, HV.out, rfl⟩

theorem primRoot_no (p e0 : Int) (w : World) (he : (e0 != 0) = true) (h : ((p < 2 ∨ 2147483647 < p) ∧ e0 = 2) ∨ ((2 ≤ p ∧ p ≤ 2147483647) ∧ ((Pr p.toNat ∧ e0 = 0) ∨ (¬ Pr p.toNat ∧ e0 = 8)))) :
    Calls Try.prog 53 #[.int .i64 p] w fun e w' => e = .returned (.tuple #[.int .i64 0, .int .i64 e0]) ∧ w = w' := by
  have HC := Lib.hid (fun W => checkPrime_any p e0 W h)
  clear h
  go_enter Try.func53, Try.ntmps53
  go_wp2_with (go_at_call 77; ((with_reducible refine (HC.out _).mono ?_); rintro e w' ⟨rfl, rfl⟩))
  go_ret2
  exact ⟨rfl, rfl⟩
theorem sqrtMod_no (a p e0 : Int) (w : World) (he : (e0 != 0) = true) (h : ((p < 2 ∨ 2147483647 < p) ∧ e0 = 2) ∨ ((2 ≤ p ∧ p ≤ 2147483647) ∧ ((Pr p.toNat ∧ e0 = 0) ∨ (¬ Pr p.toNat ∧ e0 = 8)))) :
    Calls Try.prog 54 #[.int .i64 a, .int .i64 p] w fun e w' => e = .returned (.tuple #[.int .i64 0, .bool false, .int .i64 e0]) ∧ w = w' := by
  have HC := Lib.hid (fun W => checkPrime_any p e0 W h)
  clear h
  go_enter Try.func54, Try.ntmps54
  go_wp2_with (go_at_call 77; ((with_reducible refine (HC.out _).mono ?_); rintro e w' ⟨rfl, rfl⟩))
  refine bodyPost_ret (results_tmp3 rfl _ _ _) rfl ?_
  exact ⟨rfl, rfl⟩

set_option maxHeartbeats 1600000 in
set_option maxRecDepth 1000000 in
theorem roots_out (a p : Int) (w : World) (h : p < 2 ∨ 2147483647 < p) :
    Calls Try.prog 14 #[.int .i64 a, .int .i64 p] w fun e w' => e = .returned (.bool true) ∧ Below w.heap.size w w' := by
  have HR := Lib.hid (fun W => primRoot_no p 2 W rfl (.inl ⟨h, rfl⟩))
  have HS := Lib.hid (fun W => sqrtMod_no a p 2 W rfl (.inl ⟨h, rfl⟩))
  rcases h with h | h
  · go_enter Try.func14, Try.ntmps14
    go_wp2_with (first
      | (go_at_call 15; ((with_reducible refine (awake_any _).mono ?_); rintro e w1 ⟨rfl, hb1⟩; have HB := Lib.hid hb1; clear hb1))
      | (go_at_call 53; ((with_reducible refine (HR.out _).mono ?_); rintro e w' ⟨rfl, rfl⟩))
      | (go_at_call 54; ((with_reducible refine (HS.out _).mono ?_); rintro e w' ⟨rfl, rfl⟩)))
    go_ret
    exact ⟨rfl, HB.out⟩
  · have h0 : decide (p < 2) = false := decide_eq_false (by omega)
    go_enter Try.func14, Try.ntmps14
    go_wp2_with (first
      | (go_at_call 15; ((with_reducible refine (awake_any _).mono ?_); rintro e w1 ⟨rfl, hb1⟩; have HB := Lib.hid hb1; clear hb1))
      | (go_at_call 53; ((with_reducible refine (HR.out _).mono ?_); rintro e w' ⟨rfl, rfl⟩))
      | (go_at_call 54; ((with_reducible refine (HS.out _).mono ?_); rintro e w' ⟨rfl, rfl⟩)))
    go_ret
    exact ⟨rfl, HB.out⟩
set_option maxHeartbeats 1600000 in
set_option maxRecDepth 1000000 in
theorem roots_comp (a : Int) (p : Nat) (w : World) (h1 : 2 ≤ p) (h2 : (p : Int) ≤ 2147483647) (hp : ¬ Pr p) :
    Calls Try.prog 14 #[.int .i64 a, .int .i64 p] w fun e w' => e = .returned (.bool true) ∧ Below w.heap.size w w' := by
  have hc : ((((p : Int) < 2 ∨ 2147483647 < (p : Int)) ∧ (8 : Int) = 2) ∨ ((2 ≤ (p : Int) ∧ (p : Int) ≤ 2147483647) ∧ ((Pr (p : Int).toNat ∧ (8 : Int) = 0) ∨ (¬ Pr (p : Int).toNat ∧ (8 : Int) = 8)))) := .inr ⟨⟨by omega, h2⟩, .inr ⟨by rwa [Int.toNat_natCast], rfl⟩⟩
  have HR := Lib.hid (fun W => primRoot_no p 8 W rfl hc)
  have HS := Lib.hid (fun W => sqrtMod_no a p 8 W rfl hc)
  have HQ : Hid (∀ W : World, Calls Try.prog 21 #[.int .i64 p] W fun e w' => e = .returned (.bool false) ∧ W = w') := fun W => by
    have := refPrime_any p W h2
    rwa [prI_nat, prB_false hp] at this
  have h0 : decide ((p : Int) < 2) = false := decide_eq_false (by omega)
  have h3 : decide (2147483647 < (p : Int)) = false := decide_eq_false (by omega)
  clear hc hp
  go_enter Try.func14, Try.ntmps14
  go_wp2_with (first
    | (go_at_call 15; ((with_reducible refine (awake_any _).mono ?_); rintro e w1 ⟨rfl, hb1⟩; have HB := Lib.hid hb1; clear hb1))
    | (go_at_call 53; ((with_reducible refine (HR.out _).mono ?_); rintro e w' ⟨rfl, rfl⟩))
    | (go_at_call 54; ((with_reducible refine (HS.out _).mono ?_); rintro e w' ⟨rfl, rfl⟩))
    | (go_at_call 21; ((with_reducible refine (HQ.out _).mono ?_); rintro e w' ⟨rfl, rfl⟩)))
  go_ret
  exact ⟨rfl, HB.out⟩
set_option maxHeartbeats 1600000 in
set_option maxRecDepth 1000000 in
theorem roots_prime (a : Int) (p r : Nat) (w : World) (h2 : (p : Int) ≤ 2147483647) (hp : Pr p) (hr : RootIs p r) :
    Calls Try.prog 14 #[.int .i64 a, .int .i64 p] w fun e w' => e = .returned (.bool true) ∧ Below w.heap.size w w' := by
  have hp0 := hp.1
  have HR := Lib.hid (fun W => primRoot_any p r W hp h2 hr)
  have HF := Lib.hid (fun W => refPrimRoot_any p r W hp h2 hr)
  have HS := Lib.hid (fun W => sqrtMod_any a p W hp h2)
  have HK := Lib.hid (fun W => refKron_any a p W (by omega) h2)
  have HQ : Hid (∀ W : World, Calls Try.prog 21 #[.int .i64 p] W fun e w' => e = .returned (.bool true) ∧ W = w') := fun W => by
    have := refPrime_any p W h2
    rwa [prI_nat, prB_true hp] at this
  have HM := Lib.hid (fun W => refMod_any a p W (by omega) (by omega))
  have h0 : decide ((p : Int) < 2) = false := decide_eq_false (by omega)
  have h3 : decide (2147483647 < (p : Int)) = false := decide_eq_false (by omega)
  have hp1 : 1 ≤ (p : Int) := by omega
  clear hp hr
  go_enter Try.func14, Try.ntmps14
  go_wp2_with (first
    | (go_at_call 15; ((with_reducible refine (awake_any _).mono ?_); rintro e w1 ⟨rfl, hb1⟩; have HB := Lib.hid hb1; have hs1 := hb1.size; clear hb1))
    | (go_at_call 53; ((with_reducible refine (HR.out _).mono ?_); rintro e w2 ⟨rfl, hb2⟩; have HB2 := Lib.hid (HB.out.trans (hb2.mono hs1)); have hs2 := HB2.out.size; clear hb2))
    | (go_at_call 54; fail))
  refine (HS.out _).mono ?_
  rintro e w' ⟨x, ok, rfl, hv, rfl⟩
  rcases hv with ⟨rfl, hsq, x0, x1, hx⟩ | ⟨rfl, hne, hk, rfl⟩
  · have d1 : decide (0 ≤ x) = true := decide_eq_true x0
    have d2 : decide (x ≤ (p : Int) / 2) = true := decide_eq_true x1
    have d3 : (x * x % (p : Int) == a % (p : Int)) = true := by rw [beq_iff_eq]; exact hx
    obtain ⟨m1, m2⟩ := prod_lit h2 x0 (by omega) x0 (by omega)
    have m3 := Int.emod_nonneg (x * x) (show (p : Int) ≠ 0 by omega)
    have m4 : x * x % (p : Int) ≤ 2147483647 := by have := Int.emod_lt_of_pos (x * x) (show 0 < (p : Int) by omega); omega
    clear hx
    by_cases h22 : p = 2
    · have hb2 : ((p : Int) == 2) = true := by rw [beq_iff_eq]; omega
      clear h22 hsq
      go_wp2_with (first
        | (go_at_call 21; ((with_reducible refine (HQ.out _).mono ?_); rintro e w' ⟨rfl, rfl⟩))
        | (go_at_call 55; ((with_reducible refine (HF.out _).mono ?_); rintro e w3 ⟨rfl, hb3⟩; have HB3 := Lib.hid (HB2.out.trans (hb3.mono hs2)); have hs3 := HB3.out.size; clear hb3)))
      go_quiet ((go_at_call 50; first | exact quiet_left (HM.out _) | exact quiet_add_left (HM.out _)))
      go_wp2
      go_ret
      exact ⟨rfl, by repeat (first | exact HB3.out | refine below_drewN ?_ _)⟩
    · have hb2 : ((p : Int) == 2) = false := by rw [beq_eq_false_iff_ne]; omega
      have hk1 : 0 ≤ kron a p := by
        rcases hsq with h | h
        · exact absurd h h22
        · exact h
      clear h22 hsq HS
      generalize kron a p = kc at *
      have d4 : decide (0 ≤ kc) = true := decide_eq_true hk1
      go_wp2_with (first
        | (go_at_call 21; ((with_reducible refine (HQ.out _).mono ?_); rintro e w' ⟨rfl, rfl⟩))
        | (go_at_call 55; ((with_reducible refine (HF.out _).mono ?_); rintro e w3 ⟨rfl, hb3⟩; have HB3 := Lib.hid (HB2.out.trans (hb3.mono hs2)); have hs3 := HB3.out.size; clear hb3))
        | (go_at_call 43; ((with_reducible refine (HK.out _).mono ?_); rintro e w4 ⟨rfl, hb4⟩; have HB4 := Lib.hid (HB3.out.trans (hb4.mono hs3)); clear hb4)))
      go_quiet ((go_at_call 50; first | exact quiet_left (HM.out _) | exact quiet_add_left (HM.out _)))
      go_wp2
      go_ret
      exact ⟨rfl, by repeat (first | exact HB4.out | refine below_drewN ?_ _)⟩
  · have hb2 : ((p : Int) == 2) = false := by rw [beq_eq_false_iff_ne]; omega
    clear HS
    generalize kron a p = kc at *
    have d4 : decide (0 ≤ kc) = false := decide_eq_false (by omega)
    clear hne
    go_wp2_with (first
      | (go_at_call 21; ((with_reducible refine (HQ.out _).mono ?_); rintro e w' ⟨rfl, rfl⟩))
      | (go_at_call 55; ((with_reducible refine (HF.out _).mono ?_); rintro e w3 ⟨rfl, hb3⟩; have HB3 := Lib.hid (HB2.out.trans (hb3.mono hs2)); have hs3 := HB3.out.size; clear hb3))
      | (go_at_call 43; ((with_reducible refine (HK.out _).mono ?_); rintro e w4 ⟨rfl, hb4⟩; have HB4 := Lib.hid (HB3.out.trans (hb4.mono hs3)); clear hb4)))
    go_ret
    exact ⟨rfl, HB4.out⟩

theorem roots_walk (a p : Int) (w : World) (_ : -9223372036854775808 ≤ a) (_ : a ≤ 9223372036854775807) (_ : -9223372036854775808 ≤ p) (_ : p ≤ 9223372036854775807) :
    Calls Try.prog 14 #[.int .i64 a, .int .i64 p] w fun e w' => e = .returned (.bool true) ∧ Below w.heap.size w w' := by
  rcases Classical.em (p < 2 ∨ 2147483647 < p) with h | h
  · exact roots_out a p w h
  · obtain ⟨k, rfl⟩ : ∃ k : Nat, p = (k : Int) := ⟨p.toNat, by omega⟩
    by_cases hk : Pr k
    · obtain ⟨r, hr⟩ := root_exists hk
      exact roots_prime a k r w (by omega) hk hr
    · exact roots_comp a k w (by omega) (by omega) hk
end Go.Proofs.Ytoeailhcobbhjaa
