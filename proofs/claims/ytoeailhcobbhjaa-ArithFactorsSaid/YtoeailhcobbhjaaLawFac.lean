/- ArithFactors answers true for all integers: what it does to the world. -/
import Derived.Test.YtoeailhcobbhjaaDivs
import Derived.Test.YtoeailhcobbhjaaRefFac
import Derived.Test.YtoeailhcobbhjaaAwake
import Derived.Test.YtoeailhcobbhjaaLawPrimes
namespace Go.Proofs.Ytoeailhcobbhjaa
open Go.RowKit

theorem factor_out (n : Int) (w : World) (h : n < 1 ∨ 2147483647 < n) :
    Calls Try.prog 25 #[.int .i64 n] w fun e w' => e = .returned (.tuple #[.slice none 0 0, .int .i64 2]) ∧ w = w' := by
  go_enter Try.func25, Try.ntmps25
  go_wp2_with (go_at_call 59; ((with_reducible refine (inRange_no _ _ h).mono ?_); rintro e w' ⟨rfl, rfl⟩))
  go_ret2
  exact ⟨rfl, rfl⟩
theorem divisors_out (n : Int) (w : World) (h : n < 1 ∨ 2147483647 < n) :
    Calls Try.prog 26 #[.int .i64 n] w fun e w' => e = .returned (.tuple #[.slice none 0 0, .int .i64 2]) ∧ w = w' := by
  go_enter Try.func26, Try.ntmps26
  go_wp2_with (go_at_call 25; ((with_reducible refine (factor_out _ _ h).mono ?_); rintro e w' ⟨rfl, rfl⟩))
  go_ret2
  exact ⟨rfl, rfl⟩
set_option maxHeartbeats 1600000 in
set_option maxRecDepth 1000000 in
theorem fac_out (n : Int) (w : World) (h : n < 1 ∨ 2147483647 < n) :
    Calls Try.prog 5 #[.int .i64 n] w fun e w' => e = .returned (.bool true) ∧ Below w.heap.size w w' := by
  go_enter Try.func5, Try.ntmps5
  go_wp2_with (first
    | (go_at_call 15; ((with_reducible refine (awake_any _).mono ?_); rintro e w1 ⟨rfl, hb1⟩; have HB := Lib.hid hb1; clear hb1))
    | (go_at_call 25; ((with_reducible refine (factor_out _ _ h).mono ?_); rintro e w' ⟨rfl, rfl⟩))
    | (go_at_call 26; ((with_reducible refine (divisors_out _ _ h).mono ?_); rintro e w' ⟨rfl, rfl⟩))
    | (go_at_call 27; ((with_reducible refine (refInRange_no _ _ h).mono ?_); rintro e w' ⟨rfl, rfl⟩)))
  go_ret
  exact ⟨rfl, HB.out⟩

theorem own_keep {w w' : World} {b : Nat} {e : TypeId} {size : Nat} {v : Value} {n : Nat} {xs : List Value} (h : w.ownsRow b e size v n xs) (hb : Below w.heap.size w w') : w'.ownsRow b e size v n xs :=
  h.kept (row := none) ⟨hb.os, hb.tape, hb.output, hb.size, fun k hk _ => hb.block k hk⟩ (by cases v.ownBlock <;> simp)
theorem own_len {w : World} {b : Nat} {e : TypeId} {size : Nat} {v : Value} {n : Nat} {xs : List Value} (h : w.ownsRow b e size v n xs) : ∃ A c, v = .slice A n c := by
  rcases h.2 with ⟨h1, h2⟩ | ⟨g, cap, cur, h1, _⟩
  · exact ⟨none, 0, by rw [h1, h2]⟩
  · exact ⟨_, _, h1⟩
theorem cnt_le {F : List (Nat × Nat)} (k : Nat) : cnt F k ≤ cnt F F.length := by
  unfold cnt
  rw [List.take_length, List.map_take]
  exact prod_take_le (fun x hx => by obtain ⟨p, _, rfl⟩ := List.mem_map.1 hx; omega) k
theorem pw_pos {n : Nat} {F : List (Nat × Nat)} (hF : FacIs 2 n F) (hn : 1 ≤ n) (k : Nat) : 1 ≤ pw F k ∧ pw F k ≤ n := by
  have h := pw_dvd hF k
  have h1 : 1 ≤ pw F k := by
    rcases Nat.eq_zero_or_pos (pw F k) with h0 | h0
    · rw [h0] at h; have := Nat.eq_zero_of_zero_dvd h; omega
    · exact h0
  exact ⟨h1, Nat.le_of_dvd hn h⟩
theorem pw_part {P p q j n : Nat} (hp : 1 ≤ p) (h : P * p ^ q ≤ n) (hj : j ≤ q) : P * p ^ j ≤ n :=
  Nat.le_trans (Nat.mul_le_mul_left _ (Nat.pow_le_pow_right hp hj)) h

set_option maxHeartbeats 3200000 in
set_option maxRecDepth 1000000 in
theorem fac_in (n : Nat) (w : World) (hn : 1 ≤ n) (hn2 : (n : Int) ≤ 2147483647) :
    Calls Try.prog 5 #[.int .i64 n] w fun e w' => e = .returned (.bool true) ∧ Below w.heap.size w w' := by
  obtain ⟨D, d1, d2⟩ := root_of n
  have hfi := facs_two_is hn
  have hfa := fun W => factor_any n W hn hn2
  have hfr := fun W => refFactor_any n W hn hn2
  have hdv : ∀ W : World, Calls Try.prog 26 #[.int .i64 n] W fun e w' => ∃ v : Value, e = .returned (.tuple #[v, .int .i64 0]) ∧ (cnt (facs 2 n) (facs 2 n).length = (dvs n D).length) ∧ w'.ownsRow W.heap.size 3 1 v (dvs n D).length (nats (dvs n D)) ∧ Below W.heap.size W w' := fun W =>
    (divisors_any n W hn hn2).mono fun e w' ⟨M, v, he, hM, hl, ho, hb⟩ => by
      have hs := sorted_dvs hM hn d1 d2
      rw [hs] at ho
      exact ⟨v, he, by rw [← hl, ← sorted_len, hs], ho, hb⟩
  have hdr : ∀ W : World, Calls Try.prog 29 #[.int .i64 n] W fun e w' => ∃ v : Value, e = .returned v ∧ w'.ownsRow W.heap.size 3 1 v (dvs n D).length (nats (dvs n D)) ∧ Below W.heap.size W w' := fun W =>
    (refDivs_any n W hn hn2).mono fun e w' ⟨D', v, he, ⟨h1, h2⟩, ho, hb⟩ => by
      have hDD : D' = D := by
        rcases Nat.lt_trichotomy D' D with h | h | h
        · have : (D' + 1) * (D' + 1) ≤ D * D := Nat.mul_le_mul h h
          omega
        · exact h
        · have : (D + 1) * (D + 1) ≤ D' * D' := Nat.mul_le_mul h h
          omega
      rw [hDD] at ho
      exact ⟨v, he, ho, hb⟩
  have hlen := dvs_len n D
  have hD46 : D ≤ 46341 := by
    rcases Nat.lt_or_ge 46341 D with h | h
    · have : 46342 * 46342 ≤ D * D := Nat.mul_le_mul h h
      omega
    · exact h
  have hlenD : ((dvs n D).length : Int) ≤ 2147483647 := by omega
  have hlenD2 : (dvs n D).length ≤ 92682 := by omega
  clear hlen hD46 d1 d2
  generalize facs 2 n = F at *
  generalize dvs n D = S at *
  have HFI := Lib.hid hfi
  have HFA := Lib.hid hfa
  have HFR := Lib.hid hfr
  have HDV := Lib.hid hdv
  have HDR := Lib.hid hdr
  have hlenI : (F.length : Int) ≤ 2147483647 := by have := hfi.len; omega
  clear hfi hfa hfr hdv hdr
  go_enter Try.func5, Try.ntmps5
  go_wp2_with (first
    | (go_at_call 15; ((with_reducible refine (awake_any _).mono ?_); rintro e w1 ⟨rfl, hb1⟩; have HB := Lib.hid hb1; have hs1 := hb1.size; clear hb1))
    | (go_at_call 25; ((with_reducible refine (HFA.out _).mono ?_); rintro e w2 ⟨v1, rfl, ho1, hb2⟩; have HO1 := Lib.hid ho1; have hs2 := hb2.size; have HB2 := Lib.hid (HB.out.trans (hb2.mono hs1)); clear ho1 hb2))
    | (go_at_call 26; ((with_reducible refine (HDV.out _).mono ?_); rintro e w3 ⟨v2, rfl, hcnt, ho2, hb3⟩; have HCNT := Lib.hid hcnt; have HO2 := Lib.hid ho2; have hs3 := hb3.size; have HO1b := Lib.hid (own_keep HO1.out hb3); have HB3 := Lib.hid (HB2.out.trans (hb3.mono (Nat.le_trans hs1 hs2))); clear ho2 hb3 hcnt))
    | (go_at_call 27; ((with_reducible refine (refInRange_yes _ _ (by omega) hn2).mono ?_); rintro e w' ⟨rfl, rfl⟩))
    | (go_at_call 28; fail))
  refine (HFR.out _).mono ?_
  rintro e w4 ⟨v3, rfl, ho3, hb4⟩
  have hs4 := hb4.size
  have HO1c := Lib.hid (own_keep HO1b.out hb4)
  have HO2c := Lib.hid (own_keep HO2.out hb4)
  have HB4 := Lib.hid (HB3.out.trans (hb4.mono (Nat.le_trans hs1 (Nat.le_trans hs2 hs3))))
  clear hb4 HO1 HO2 HO1b HFA HFR HDV
  obtain ⟨A2, c2, rfl⟩ := own_len HO2c.out
  have HPF : Hid (pw F F.length = n) := by show _ = _; unfold pw; rw [List.take_length]; exact HFI.out.mul
  rcases own_shape HO1c.out with ⟨hF, rfl⟩ | ⟨g1, cap1, rfl, hg1, hgs1, hcap1, hcell1⟩
  · have HN1 : Hid (n = 1) := by have := HPF.out; rw [hF] at this; exact this.symm
    have HC0 : Hid (S.length = 1) := by have := HCNT.out; rw [hF] at this; exact this.symm
    rcases own_shape ho3 with ⟨_, rfl⟩ | ⟨g3, cap3, rfl, hg3, hgs3, hcap3, hcell3⟩
    · subst hF
      clear ho3
      have e1 : ((1 : Int) == (n : Int)) = true := by rw [beq_iff_eq, HN1.out]; rfl
      have e2 : ((1 : Int) == (S.length : Int)) = true := by rw [beq_iff_eq, HC0.out]; rfl
      go_wp2_with (first
        | (go_at_call 29; ((with_reducible refine (HDR.out _).mono ?_); rintro e w5 ⟨v4, rfl, ho4, hb5⟩; have HI2 := Lib.hid (ints_same _ _ _ _ _ w5 (own_keep HO2c.out hb5) ho4 hlenD); have HB45 := Lib.hid hb5; have HB5 := Lib.hid (HB4.out.trans (hb5.mono (Nat.le_trans hs1 (Nat.le_trans hs2 (Nat.le_trans hs3 hs4))))); clear ho4 hb5))
        | (go_at_call 23; (refine HI2.out.mono ?_; rintro e w6 ⟨rfl, nn, rfl⟩)))
      refine wp_loop_rounds 1 ?_
      rw [rounds_succ]
      go_wp2
      go_ret
      exact ⟨rfl, below_drewN HB5.out _⟩
    · subst hF
      clear ho3 hcell3
      have e1 : ((1 : Int) == (n : Int)) = true := by rw [beq_iff_eq, HN1.out]; rfl
      have e2 : ((1 : Int) == (S.length : Int)) = true := by rw [beq_iff_eq, HC0.out]; rfl
      go_wp2_with (first
        | (go_at_call 29; ((with_reducible refine (HDR.out _).mono ?_); rintro e w5 ⟨v4, rfl, ho4, hb5⟩; have HI2 := Lib.hid (ints_same _ _ _ _ _ w5 (own_keep HO2c.out hb5) ho4 hlenD); have HB45 := Lib.hid hb5; have HB5 := Lib.hid (HB4.out.trans (hb5.mono (Nat.le_trans hs1 (Nat.le_trans hs2 (Nat.le_trans hs3 hs4))))); clear ho4 hb5))
        | (go_at_call 23; (refine HI2.out.mono ?_; rintro e w6 ⟨rfl, nn, rfl⟩)))
      refine wp_loop_rounds 1 ?_
      rw [rounds_succ]
      go_wp2
      go_ret
      exact ⟨rfl, below_drewN HB5.out _⟩
  · rcases own_shape ho3 with ⟨hF, rfl⟩ | ⟨g3, cap3, rfl, hg3, hgs3, hcap3, hcell3⟩
    · subst hF
      clear ho3 hcell1
      have e1 : ((1 : Int) == (n : Int)) = true := by rw [beq_iff_eq, ← HPF.out]; rfl
      have e2 : ((1 : Int) == (S.length : Int)) = true := by rw [beq_iff_eq, ← HCNT.out]; rfl
      go_wp2_with (first
        | (go_at_call 29; ((with_reducible refine (HDR.out _).mono ?_); rintro e w5 ⟨v4, rfl, ho4, hb5⟩; have HI2 := Lib.hid (ints_same _ _ _ _ _ w5 (own_keep HO2c.out hb5) ho4 hlenD); have HB45 := Lib.hid hb5; have HB5 := Lib.hid (HB4.out.trans (hb5.mono (Nat.le_trans hs1 (Nat.le_trans hs2 (Nat.le_trans hs3 hs4))))); clear ho4 hb5))
        | (go_at_call 23; (refine HI2.out.mono ?_; rintro e w6 ⟨rfl, nn, rfl⟩)))
      refine wp_loop_rounds 1 ?_
      rw [rounds_succ]
      go_wp2
      go_ret
      exact ⟨rfl, below_drewN HB5.out _⟩
    · have HC1 := Lib.hid hcell1
      have HC3 := Lib.hid hcell3
      clear hcell1 hcell3 ho3
      go_wp2_with (first
        | (go_at_call 29; ((with_reducible refine (HDR.out _).mono ?_); rintro e w5 ⟨v4, rfl, ho4, hb5⟩; have HI2 := Lib.hid (ints_same _ _ _ _ _ w5 (own_keep HO2c.out hb5) ho4 hlenD); have HB45 := Lib.hid hb5; have HB5 := Lib.hid (HB4.out.trans (hb5.mono (Nat.le_trans hs1 (Nat.le_trans hs2 (Nat.le_trans hs3 hs4))))); clear ho4 hb5))
        | (go_at_call 23; (refine HI2.out.mono ?_; rintro e w6 ⟨rfl, nn, rfl⟩)))
      have hcle : cnt F F.length ≤ 92682 := by have := HCNT.out; omega
      go_loopw [8, 9, 10, 11] (fun P M I _ wr => ∃ (k q a b : Nat), I = .int .i64 k ∧ P = .int .i64 a ∧ M = .int .i64 b ∧ k ≤ F.length ∧ (a : Int) ≤ 2147483647 ∧ b ≤ 92682 ∧ Hid (a = pw F k) ∧ Hid (b = cnt F k) ∧ wr = w5.drewN q) (fun _ _ I _ _ => F.length - (intOf I).toNat)
      case atStart => exact ⟨0, nn, 1, 1, rfl, rfl, rfl, Nat.zero_le _, by omega, by omega, rfl, rfl, rfl⟩
      case round =>
        obtain ⟨k, q0, a, b, rfl, rfl, rfl, hk, ha, hb, HA, HBB, rfl⟩ := hrel
        by_cases hlt : k < F.length
        · have x1 := (HC1.out k hlt).1
          have x2 := (HC1.out k hlt).2
          have x3 := (HC3.out k hlt).1
          have x4 := (HC3.out k hlt).2
          rw [← HB45.out.cell (p := ⟨g1, k * 2, none⟩) hgs1] at x1
          rw [← HB45.out.cell (p := ⟨g1, k * 2 + 1, none⟩) hgs1] at x2
          rw [← HB45.out.cell (p := ⟨g3, k * 2, none⟩) hgs3] at x3
          rw [← HB45.out.cell (p := ⟨g3, k * 2 + 1, none⟩) hgs3] at x4
          have c1 := fun N => (show (w5.drewN N).cell? ⟨g1, k * 2, none⟩ = _ from x1)
          have c2 := fun N => (show (w5.drewN N).cell? ⟨g1, k * 2 + 1, none⟩ = _ from x2)
          have c3 := fun N => (show (w5.drewN N).cell? ⟨g3, k * 2, none⟩ = _ from x3)
          have c4 := fun N => (show (w5.drewN N).cell? ⟨g3, k * 2 + 1, none⟩ = _ from x4)
          have hlt2 : (k : Int) < (F.length : Int) := by omega
          obtain ⟨_, _, _, _, s5, s6, s7, _⟩ := fund_step HFI.out hlt
          have hpw := (pw_pos HFI.out hn (k + 1)).2
          rw [pw_succ hlt, ← HA.out] at hpw
          have HPW := Lib.hid hpw
          have HPW2 : Hid (a * F[k].1 ^ F[k].2 = pw F (k + 1)) := by show _ = _; rw [pw_succ hlt, HA.out]
          have hc2 : b * (F[k].2 + 1) ≤ 92682 := by have h1 := cnt_le (F := F) (k + 1); rw [cnt_succ hlt, ← HBB.out] at h1; omega
          have HC2 : Hid (b * (F[k].2 + 1) = cnt F (k + 1)) := by show _ = _; rw [cnt_succ hlt, HBB.out]
          clear x1 x2 x3 x4 hpw hk
          generalize F[k].1 = p at *
          generalize F[k].2 = q at *
          have hpi : (p : Int) ≤ 2147483647 := by omega
          have hqi : (q : Int) ≤ 2147483647 := by omega
          have hbm : ((b * (q + 1) : Nat) : Int) = (b : Int) * ((q : Int) + 1) := by simp
          have hb1 : 0 ≤ (b : Int) * ((q : Int) + 1) := by omega
          have hb2 : (b : Int) * ((q : Int) + 1) ≤ 92682 := by omega
          have HBM := Lib.hid hbm
          clear hbm
          go_wp2
          go_quiet (fail)
          go_wp2
          go_loopw [8, 11] (fun P J wi => ∃ (j q1 a1 : Nat), J = .int .i64 j ∧ P = .int .i64 a1 ∧ j ≤ q ∧ (a1 : Int) ≤ 2147483647 ∧ Hid (a1 = a * p ^ j) ∧ wi = w5.drewN q1) (fun _ J _ => q - (intOf J).toNat)
          case atStart => exact ⟨0, _, a, rfl, rfl, Nat.zero_le _, ha, by show _ = _; simp, World.drewN_drewN _ _ _⟩
          case round =>
            obtain ⟨j, q1, a1, rfl, rfl, hj, ha1, HA1, rfl⟩ := hrel
            by_cases hjq : j < q
            · have hjq2 : (j : Int) < (q : Int) := by omega
              have hnx : a1 * p = a * p ^ (j + 1) := by rw [HA1.out, Nat.pow_succ, Nat.mul_assoc]
              have hle : a1 * p ≤ n := by rw [hnx]; exact pw_part (by omega) HPW.out (by omega)
              have hm : ((a1 * p : Nat) : Int) = (a1 : Int) * (p : Int) := by simp
              have hm1 : 0 ≤ (a1 : Int) * (p : Int) := by omega
              have hm2 : (a1 : Int) * (p : Int) ≤ 2147483647 := by omega
              have HNX := Lib.hid hnx
              have HMM := Lib.hid hm
              have hle2 : ((a1 * p : Nat) : Int) ≤ 2147483647 := by omega
              have HLE2 := Lib.hid hle2
              clear hnx hm hle hle2
              go_wp2
              go_roundw
              case rel => exact ⟨j + 1, _, a1 * p, by go_num, by rw [HMM.out], hjq, HLE2.out, HNX.out, rfl⟩
              case measure => simp [intOf]; omega
            · have hjq2 : ¬ (j : Int) < (q : Int) := by omega
              have HFIN : Hid (a1 = pw F (k + 1)) := by
                have hjj : j = q := by omega
                show _ = _
                rw [HA1.out, hjj]; exact HPW2.out
              go_wp2
              go_roundw
              case rel => exact ⟨k + 1, _, a1, b * (q + 1), by go_num, rfl, by rw [HBM.out], hlt, ha1, hc2, HFIN.out, HC2.out, rfl⟩
              case measure => simp [intOf]; omega
        · have hn1 : ¬ (k : Int) < (F.length : Int) := by omega
          obtain rfl : k = F.length := by omega
          have e1 : ((a : Int) == (n : Int)) = true := by rw [beq_iff_eq, HA.out, HPF.out]
          have e2 : ((b : Int) == (S.length : Int)) = true := by rw [beq_iff_eq, HBB.out, HCNT.out]
          clear ha hb
          go_wp2
          go_ret
          exact ⟨rfl, below_drewN HB5.out _⟩

theorem fac_walk (n : Int) (w : World) (_ : -9223372036854775808 ≤ n) (_ : n ≤ 9223372036854775807) :
    Calls Try.prog 5 #[.int .i64 n] w fun e w' => e = .returned (.bool true) ∧ Below w.heap.size w w' := by
  rcases Classical.em (n < 1 ∨ 2147483647 < n) with h | h
  · exact fac_out n w h
  · obtain ⟨k, rfl⟩ : ∃ k : Nat, n = (k : Int) := ⟨n.toNat, by omega⟩
    exact fac_in k w (by omega) (by omega)
end Go.Proofs.Ytoeailhcobbhjaa
