/- The contract of Order. -/
import Derived.Test.YtoeailhcobbhjaaRefOrd
import Derived.Test.YtoeailhcobbhjaaFund
namespace Go.Proofs.Ytoeailhcobbhjaa
open Go.RowKit

theorem phi_all (m : Nat) (w : World) (m1 : 1 ≤ m) (m2 : (m : Int) ≤ 2147483647) :
    Calls Try.prog 30 #[.int .i64 m] w fun e w' => e = .returned (.tuple #[.int .i64 (phiOf m (facs 2 m) : Int), .int .i64 0]) ∧ Below w.heap.size w w' := by
  have hF := facs_two_is m1
  refine phi_F m (facs 2 m) rfl w m1 m2 (fun k hk => ?_) (by have := hF.len; omega)
  obtain ⟨_, _, _, _, s5, s6, _, _⟩ := fund_step hF hk
  omega

set_option maxHeartbeats 3200000 in
set_option maxRecDepth 1000000 in
theorem order_any (a : Int) (m : Nat) (w : World) (m1 : 1 ≤ m) (m2 : (m : Int) ≤ 2147483647) :
    Calls Try.prog 47 #[.int .i64 a, .int .i64 m] w fun e w' => ∃ o e0 : Int, e = .returned (.tuple #[.int .i64 o, .int .i64 e0]) ∧ OrdIs a m o e0 ∧ Below w.heap.size w w' := by
  by_cases hg : Int.gcd (a % m) m = 1
  · have HI : Hid (∀ W : World, Calls Try.prog 44 #[.int .i64 a, .int .i64 m] W fun e w' => ∃ u : Int, e = .returned (.tuple #[.int .i64 u, .int .i64 0]) ∧ W = w') := fun W =>
      (inverse_yes a m W (by omega) m2).mono fun e w' ⟨u, e0, he, hi, hw⟩ => by
        rcases hi with ⟨_, h2, _⟩ | ⟨h1, _⟩
        · exact ⟨u, by rw [he, h2], hw⟩
        · exact absurd hg h1
    have hcop := gcd_of_emod m1 hg
    have HG := Lib.hid hg
    have HPH := Lib.hid (fun W => phi_all m W m1 m2)
    have hphi1 : 1 ≤ phiOf m (facs 2 m) := by rw [phiOf_facs m1]; exact tot_pos fun q hq => ((facs_two_is m1).mem q hq).1
    have hphi2 := phiOf_le (facs 2 m) m
    have HEU := Lib.hid (euler_phi m1 hcop)
    clear hg hcop
    generalize phiOf m (facs 2 m) = N at *
    have hfi := facs_two_is hphi1
    have hfa := fun W => factor_any N W hphi1 (by omega)
    have hN2 : (N : Int) ≤ 2147483647 := by omega
    generalize facs 2 N = F at *
    have HFI := Lib.hid hfi
    have HFA := Lib.hid hfa
    have hlenI : (F.length : Int) ≤ 2147483647 := by have := hfi.len; omega
    clear hfi hfa
    have r1 := Int.emod_nonneg a (show (m : Int) ≠ 0 by omega)
    have r2 := Int.emod_lt_of_pos a (show 0 < (m : Int) by omega)
    go_enter Try.func47, Try.ntmps47
    go_wp2_with (first
      | (go_at_call 44; ((with_reducible refine (HI.out _).mono ?_); rintro e w' ⟨u, rfl, rfl⟩))
      | (go_at_call 30; ((with_reducible refine (HPH.out _).mono ?_); rintro e w0 ⟨rfl, hb1⟩; have HB := Lib.hid hb1; have hs1 := hb1.size; clear hb1))
      | (go_at_call 25; fail))
    refine (HFA.out _).mono ?_
    rintro e w1 ⟨v, rfl, hown, hb2⟩
    have HB2 := Lib.hid (HB.out.trans (hb2.mono hs1))
    have hs2 := HB2.out.size
    clear hb2 HFA HI HPH HB
    rcases own_shape hown with ⟨rfl, rfl⟩ | ⟨g, cap, rfl, hg, hgs, hcap, hcell⟩
    · have HOI := Lib.hid ((OIn.start HFI.out hphi1 HEU.out).ord HFI.out rfl)
      clear hown
      go_wp2_with (go_at_call 71; ((with_reducible refine (residue_any _ _ _ (by omega) (by omega)).mono ?_); rintro e w' ⟨rfl, rfl⟩))
      refine wp_loop_rounds 1 ?_
      rw [rounds_succ]
      go_wp2
      go_ret2
      exact ⟨_, _, rfl, .inl ⟨HG.out, rfl, N, rfl, HOI.out, by omega⟩, HB2.out⟩
    · have HL := Lib.hid hcell
      clear hcell hown
      go_wp2_with (go_at_call 71; ((with_reducible refine (residue_any _ _ _ (by omega) (by omega)).mono ?_); rintro e w' ⟨rfl, rfl⟩))
      go_loopw [12, 15, 41] (fun O _ I wr => ∃ k o : Nat, k ≤ F.length ∧ I = .int .i64 k ∧ O = .int .i64 o ∧ (1 ≤ o ∧ o ≤ N) ∧ Hid (OIn a m N F k 0 o) ∧ Hid (Below w1.heap.size w1 wr)) (fun _ _ I _ => F.length - (intOf I).toNat)
      case atStart => exact ⟨0, N, Nat.zero_le _, rfl, rfl, by omega, OIn.start HFI.out hphi1 HEU.out, Below.refl _ _⟩
      case round =>
        obtain ⟨k, o, hk, rfl, rfl, ⟨o1, o2⟩, HOI, HBR⟩ := hrel
        have hsr := HBR.out.size
        by_cases hlt : k < F.length
        · have c1 := (HBR.out.cell (p := ⟨g, k * 2, none⟩) hgs).trans (HL.out k hlt).1
          have c2 := (HBR.out.cell (p := ⟨g, k * 2 + 1, none⟩) hgs).trans (HL.out k hlt).2
          have hlt2 : (k : Int) < (F.length : Int) := by omega
          obtain ⟨_, _, _, _, s5, s6, s7, _⟩ := fund_step HFI.out hlt
          have HHIT : Hid (∀ j x, OIn a m N F k j x → j < F[k].2 → ((m : Int) ∣ a ^ (x / F[k].1) - 1) → OIn a m N F k (j + 1) (x / F[k].1)) := fun j x h1 h2 h3 => h1.hit HFI.out hlt h2 h3
          have HNXT : Hid (∀ j x, OIn a m N F k j x → (¬ (m : Int) ∣ a ^ (x / F[k].1) - 1 ∨ j = F[k].2) → OIn a m N F (k + 1) 0 x) := fun j x h1 h2 => h1.next hlt h2
          clear hk
          generalize F[k].1 = p at *
          generalize F[k].2 = q at *
          have hp1 : 1 ≤ (p : Int) := by omega
          have hp2 : (p : Int) ≤ 2147483647 := by omega
          have hq2 : (q : Int) ≤ 2147483647 := by omega
          have HBA := Lib.hid (HBR.out.alloc hsr (.cells #[.int .i64 (p : Int), .int .i64 (q : Int)] 43))
          generalize wr = W0 at *
          have d1 := cell_two_new W0 (.int .i64 (p : Int)) (.int .i64 (q : Int)) 43 0 _ rfl
          rw [addr_add] at d1
          have e1 := fun Z => (show ((W0.alloc (.cells #[.int .i64 (p : Int), .int .i64 (q : Int)] 43)).drewN Z).cell? ⟨W0.heap.size, 0, none⟩ = _ from d1)
          go_wp2
          go_loopw [12, 47] (fun O J wi => ∃ j x z : Nat, J = .int .i64 j ∧ O = .int .i64 x ∧ (1 ≤ x ∧ x ≤ N) ∧ j ≤ q ∧ Hid (OIn a m N F k j x) ∧ wi = (W0.alloc (.cells #[.int .i64 (p : Int), .int .i64 (q : Int)] 43)).drewN z) (fun _ J _ => q - (intOf J).toNat)
          case atStart => exact ⟨0, o, 0, rfl, rfl, ⟨o1, o2⟩, by omega, HOI.out, rfl⟩
          case round =>
            obtain ⟨j, x, z, rfl, rfl, ⟨x1, x2⟩, hj, HX, rfl⟩ := hrel
            by_cases hjq : j < q
            · have hjq2 : (j : Int) < (q : Int) := by omega
              have hv1 : 0 ≤ (x : Int) / (p : Int) := Int.ediv_nonneg (by omega) (by omega)
              have hv2 : (x : Int) / (p : Int) ≤ (x : Int) := Int.ediv_le_self _ (by omega)
              have hx3 : (x : Int) ≤ 2147483647 := by omega
              have HPW : Hid (∀ y : Int, y = (x : Int) / (p : Int) → ∀ W : World, Calls Try.prog 75 #[.int .i64 (a % m), .int .i64 y, .int .i64 m] W fun e w' => e = .returned (.int .i64 (a ^ (x / p) % (m : Int))) ∧ W = w') := fun y hy W => by
                subst hy
                have := powMod_any (a % m) m (x / p) W r1 r2 (by omega) m2 (by rw [Int.natCast_ediv]; omega)
                rwa [pow_emod _ _ _ (by omega), Int.natCast_ediv] at this
              have h3 := Int.emod_nonneg 1 (show (m : Int) ≠ 0 by omega)
              by_cases ht : a ^ (x / p) % (m : Int) = 1 % (m : Int)
              · have he : (a ^ (x / p) % (m : Int) != 1 % (m : Int)) = false := by rw [bne_eq_false_iff_eq]; exact ht
                have HX2 := Lib.hid (HHIT.out j x HX.out hjq (pow_one_iff.1 ht))
                clear ht
                generalize a ^ (x / p) % (m : Int) = y at *
                go_wp2
                go_quiet ((go_at_call 75; first | exact quiet_left (HPW.out _ rfl _) | exact quiet_add_left (HPW.out _ rfl _)))
                go_wp2
                go_roundw
                case rel => exact ⟨j + 1, x / p, _, by go_num, by go_num, ⟨HX2.out.pos, Nat.le_trans (Nat.div_le_self _ _) x2⟩, by omega, HX2.out, rfl⟩
                case measure => simp [intOf]; omega
              · have he : (a ^ (x / p) % (m : Int) != 1 % (m : Int)) = true := by rw [bne_iff_ne]; exact ht
                have HX2 := Lib.hid (HNXT.out j x HX.out (.inl fun h => ht (pow_one_iff.2 h)))
                clear ht
                generalize a ^ (x / p) % (m : Int) = y at *
                go_wp2
                go_quiet ((go_at_call 75; first | exact quiet_left (HPW.out _ rfl _) | exact quiet_add_left (HPW.out _ rfl _)))
                go_wp2
                go_roundw
                case rel => exact ⟨k + 1, x, hlt, by go_num, rfl, ⟨x1, x2⟩, HX2.out, below_drewN HBA.out _⟩
                case measure => simp [intOf]; omega
            · have hjq2 : ¬ (j : Int) < (q : Int) := by omega
              have HX2 := Lib.hid (HNXT.out j x HX.out (.inr (by omega)))
              go_wp2
              go_roundw
              case rel => exact ⟨k + 1, x, hlt, by go_num, rfl, ⟨x1, x2⟩, HX2.out, below_drewN HBA.out _⟩
              case measure => simp [intOf]; omega
        · have hkl : k = F.length := by omega
          have HRES := Lib.hid (HOI.out.ord HFI.out hkl)
          have hn1 : ¬ (k : Int) < (F.length : Int) := by omega
          clear hkl
          go_wp2
          go_ret2
          exact ⟨_, _, rfl, .inl ⟨HG.out, rfl, o, rfl, HRES.out, by omega⟩, HB2.out.trans (HBR.out.mono hs2)⟩
  · have HG := Lib.hid hg
    have HI : Hid (∀ W : World, Calls Try.prog 44 #[.int .i64 a, .int .i64 m] W fun e w' => ∃ u : Int, e = .returned (.tuple #[.int .i64 u, .int .i64 9]) ∧ W = w') := fun W =>
      (inverse_yes a m W (by omega) m2).mono fun e w' ⟨u, e0, he, hi, hw⟩ => by
        rcases hi with ⟨h1, _⟩ | ⟨_, h2, _⟩
        · exact absurd h1 HG.out
        · exact ⟨u, by rw [he, h2], hw⟩
    clear hg
    go_enter Try.func47, Try.ntmps47
    go_wp2_with (first
      | (go_at_call 44; ((with_reducible refine (HI.out _).mono ?_); rintro e w' ⟨u, rfl, rfl⟩)))
    go_ret2
    exact ⟨_, _, rfl, .inr ⟨HG.out, rfl, rfl⟩, Below.refl _ _⟩
end Go.Proofs.Ytoeailhcobbhjaa
