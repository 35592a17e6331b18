/- The contract of halfplaneref03.Order. -/
import Derived.Test.YtoeailhcobbhjaaDivMath
import Derived.Test.YtoeailhcobbhjaaResid
import Derived.Test.YtoeailhcobbhjaaRefPhi
namespace Go.Proofs.Ytoeailhcobbhjaa
open Go.RowKit

theorem quiet_more {P : Program} {f : FuncId} {args : Array Value} {w : World} {a n : Nat} {v : Value}
    (h : Calls P f args (w.drewN (a + n)) fun e w' => e = .returned v ∧ ∃ q, w' = (w.drewN (a + n)).drewN q) :
    Calls P f args (w.drewN (a + n)) fun e w'' => e = .returned v ∧ ∃ m, w'' = w.drewN (a + m) :=
  h.mono fun _ _ ⟨he, q, hm⟩ => ⟨he, n + q, by rw [hm]; simp [Nat.add_assoc]⟩
theorem gcd_of_emod {a : Int} {m : Nat} (hm : 1 ≤ m) (h : Int.gcd (a % m) m = 1) : Int.gcd a m = 1 := by
  refine Classical.byContradiction fun hne => ?_
  have h1 : 1 < Int.gcd a m := by
    have := Int.gcd_pos_of_ne_zero_right a (show (m : Int) ≠ 0 by omega)
    omega
  obtain ⟨p, hp, hd⟩ := pr_of h1
  have ha : (p : Int) ∣ a := Int.dvd_trans (Int.natCast_dvd_natCast.2 hd) (Int.gcd_dvd_left a m)
  have hmm : (p : Int) ∣ (m : Int) := Int.dvd_trans (Int.natCast_dvd_natCast.2 hd) (Int.gcd_dvd_right a m)
  refine cop_not hp (Int.natCast_dvd_natCast.1 hmm) h ?_
  rw [Int.emod_def]
  exact Int.dvd_sub ha (Int.dvd_mul_of_dvd_left hmm)
def OrdIs (a m o e : Int) : Prop := (Int.gcd (a % m) m = 1 ∧ e = 0 ∧ ∃ k : Nat, o = (k : Int) ∧ IsOrd a m k ∧ (k : Int) ≤ m) ∨ (Int.gcd (a % m) m ≠ 1 ∧ e = 9 ∧ o = 0)
theorem ord_exists {a m : Int} {n : Nat} (hn : 1 ≤ n) (h : m ∣ a ^ n - 1) : ∃ o, IsOrd a m o ∧ o ∣ n := by
  obtain ⟨D, ⟨hD, hD1⟩, hl⟩ := least_of (P := fun n => 1 ≤ n ∧ m ∣ a ^ n - 1) n ⟨hn, h⟩
  have hm : ∀ e, m ∣ a ^ e - 1 → D ∣ e := fun e he => ord_dvd hD hD1 (fun j j1 j2 j3 => hl j j2 ⟨j1, j3⟩) he
  exact ⟨D, ⟨hD, hD1, hm⟩, hm n h⟩
theorem tot_pos {F : List (Nat × Nat)} (h : ∀ q ∈ F, Pr q.1) : 1 ≤ tot F := by
  refine prod_pos fun x hx => ?_
  obtain ⟨p, hp, rfl⟩ := List.mem_map.1 hx
  have := (h p hp).1
  exact Nat.le_trans (show 1 ≤ 1 * 1 by omega) (Nat.mul_le_mul (Nat.pow_pos (by omega)) (by omega))

set_option maxHeartbeats 1600000 in
set_option maxRecDepth 1000000 in
theorem refOrder_any (a : Int) (m : Nat) (w : World) (m1 : 1 ≤ m) (m2 : (m : Int) ≤ 2147483647) :
    Calls Try.prog 48 #[.int .i64 a, .int .i64 m] w fun e w' => ∃ o e0 : Int, e = .returned (.tuple #[.int .i64 o, .int .i64 e0]) ∧ OrdIs a m o e0 ∧ Below w.heap.size w w' := by
  by_cases hg : Int.gcd (a % m) m = 1
  · have HI : Hid (∀ W : World, Calls Try.prog 45 #[.int .i64 a, .int .i64 m] W fun e w' => ∃ u : Int, e = .returned (.tuple #[.int .i64 u, .int .i64 0]) ∧ W = w') := fun W =>
      (refInverse_any a m W (by omega) m2).mono fun e w' ⟨u, e0, he, hi, hw⟩ => by
        rcases hi with ⟨_, h2, _⟩ | ⟨h1, _⟩
        · exact ⟨u, by rw [he, h2], hw⟩
        · exact absurd hg h1
    have hcop := gcd_of_emod m1 hg
    have HG := Lib.hid hg
    have HPH := Lib.hid (fun W => refPhi_F m _ rfl W m1 m2)
    have hphi1 : 1 ≤ phiOf m (facs 2 m) := by rw [phiOf_facs m1]; exact tot_pos fun q hq => ((facs_two_is m1).mem q hq).1
    have hphi2 := phiOf_le (facs 2 m) m
    obtain ⟨o, ho, hod⟩ := ord_exists hphi1 (euler_phi m1 hcop)
    have HO := Lib.hid ho
    have HOD := Lib.hid hod
    clear hg hcop ho hod
    generalize phiOf m (facs 2 m) = N at *
    have HDV := Lib.hid (fun W => refDivs_any N W hphi1 (by omega))
    go_enter Try.func48, Try.ntmps48
    go_wp2_with (first
      | (go_at_call 45; ((with_reducible refine (HI.out _).mono ?_); rintro e w' ⟨u, rfl, rfl⟩))
      | (go_at_call 36; ((with_reducible refine (HPH.out _).mono ?_); rintro e w1 ⟨rfl, hb1⟩; have HB := Lib.hid hb1; have hs1 := hb1.size; clear hb1))
      | (go_at_call 29; fail))
    refine (HDV.out _).mono ?_
    rintro e w2 ⟨D, v, rfl, hDD, hown, hb2⟩
    have HB2 := Lib.hid (HB.out.trans (hb2.mono hs1))
    have hs2 := HB2.out.size
    have hmem := mem_dvs hphi1 hDD.2 HOD.out
    obtain ⟨j, hj, hjo⟩ := List.getElem_of_mem hmem
    have hasc := dvs_asc hphi1 hDD.1
    have hlen := dvs_len N D
    have hD46 : D ≤ 46341 := by
      rcases Nat.lt_or_ge 46341 D with h | h
      · have : 46342 * 46342 ≤ D * D := Nat.mul_le_mul h h
        omega
      · exact h
    have HTEST : Hid (∀ k (hk : k < (dvs N D).length), k < j → ¬ a ^ (dvs N D)[k] % (m : Int) = 1 % (m : Int)) := fun k hk hkj he => by
      have h1 := HO.out.min _ (pow_one_iff.1 he)
      have h2 := List.pairwise_iff_getElem.1 hasc k j hk hj hkj
      have h3 : (dvs N D)[k] ∣ N := dvs_dvd (List.getElem_mem hk)
      have h4 : 1 ≤ (dvs N D)[k] := by
        rcases Nat.eq_zero_or_pos (dvs N D)[k] with h0 | h0
        · rw [h0] at h3; have := Nat.eq_zero_of_zero_dvd h3; omega
        · exact h0
      have := Nat.le_of_dvd h4 h1
      omega
    have HHIT : Hid (a ^ (dvs N D)[j] % (m : Int) = 1 % (m : Int)) := pow_one_iff.2 (by rw [hjo]; exact HO.out.one)
    have HSML : Hid (∀ k (hk : k < (dvs N D).length), (dvs N D)[k] ≤ N) := fun k hk => Nat.le_of_dvd hphi1 (dvs_dvd (List.getElem_mem hk))
    have HJO := Lib.hid hjo
    rcases nats_shape hown with ⟨hnil, _⟩ | ⟨g, cap, rfl, hg, hgs, hcap, hcell⟩
    · rw [hnil] at hj
      exact absurd hj (by simp)
    · have HL := Lib.hid hcell
      clear hcell hown hasc hjo hmem hDD hb2 HDV HI HPH HB
      generalize dvs N D = L at *
      go_wp2
      go_loopw [9] (fun I wr => ∃ k q : Nat, I = .int .i64 k ∧ k ≤ j ∧ wr = w2.drewN q) (fun I _ => L.length - (intOf I).toNat)
      case atStart => exact ⟨0, 0, rfl, Nat.zero_le _, rfl⟩
      case round =>
        obtain ⟨k, q, rfl, hk, rfl⟩ := hrel
        have hkl : k < L.length := by omega
        have hkl2 : (k : Int) < (L.length : Int) := by omega
        have c1 := fun N => (show (w2.drewN N).cell? ⟨g, k, none⟩ = _ from HL.out k hkl)
        have hsm := HSML.out k hkl
        have hxb : (L[k] : Int) ≤ 2147483647 := by omega
        have HPW := Lib.hid (fun W => power_any a m L[k] W (by omega) m2 (by omega))
        have h3 := Int.emod_nonneg 1 (show (m : Int) ≠ 0 by omega)
        by_cases hkj : k = j
        · subst hkj
          have he : (a ^ L[k] % (m : Int) == 1 % (m : Int)) = true := by rw [beq_iff_eq]; exact HHIT.out
          have HV : Hid (L[k] = o) := HJO.out
          generalize L[k] = x at *
          generalize a ^ x % (m : Int) = y at *
          go_wp2
          go_quiet ((go_at_call 49; exact quiet_more (HPW.out _)))
          go_wp2
          go_ret2
          refine ⟨_, _, rfl, .inl ⟨HG.out, rfl, x, rfl, ?_, by omega⟩, below_drewN HB2.out _⟩
          rw [HV.out]; exact HO.out
        · have he : (a ^ L[k] % (m : Int) == 1 % (m : Int)) = false := by rw [beq_eq_false_iff_ne]; exact HTEST.out k hkl (by omega)
          generalize L[k] = x at *
          generalize a ^ x % (m : Int) = y at *
          go_wp2
          go_quiet ((go_at_call 49; exact quiet_more (HPW.out _)))
          go_wp2
          go_roundw
          case rel => exact ⟨k + 1, _, by go_num, by omega, rfl⟩
          case measure => simp [intOf]; omega
  · have HG := Lib.hid hg
    have HI : Hid (∀ W : World, Calls Try.prog 45 #[.int .i64 a, .int .i64 m] W fun e w' => ∃ u : Int, e = .returned (.tuple #[.int .i64 u, .int .i64 9]) ∧ W = w') := fun W =>
      (refInverse_any a m W (by omega) m2).mono fun e w' ⟨u, e0, he, hi, hw⟩ => by
        rcases hi with ⟨h1, _⟩ | ⟨_, h2, _⟩
        · exact absurd h1 HG.out
        · exact ⟨u, by rw [he, h2], hw⟩
    clear hg
    go_enter Try.func48, Try.ntmps48
    go_wp2_with (first
      | (go_at_call 45; ((with_reducible refine (HI.out _).mono ?_); rintro e w' ⟨u, rfl, rfl⟩)))
    go_ret2
    exact ⟨_, _, rfl, .inr ⟨HG.out, rfl, rfl⟩, Below.refl _ _⟩
end Go.Proofs.Ytoeailhcobbhjaa
