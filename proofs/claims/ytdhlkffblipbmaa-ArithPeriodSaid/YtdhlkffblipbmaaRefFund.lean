/- The contract of halfplaneref03.Fundamental. -/
import Derived.Test.YtdhlkffblipbmaaFund
import Derived.Test.YtdhlkffblipbmaaRefFac
namespace Go.Proofs.Ytdhlkffblipbmaa
open Go.RowKit

set_option maxHeartbeats 1600000 in
set_option maxRecDepth 1000000 in
theorem refFund_F (d s : Int) (n : Nat) (F : List (Nat × Nat)) (w : World) (hs : s = sgn d) (hd0 : d ≠ 0) (hdn : d.natAbs = n) (hn2 : (n : Int) ≤ 2147483647) (hFF : facs 2 n = F) (h4 : d % 4 < 2) :
    Calls Try.prog 41 #[.int .i64 d] w fun e w' => ∃ disc f : Int, e = .returned (.tuple #[.int .i64 disc, .int .i64 f, .int .i64 0]) ∧
      Hid ((s * (freeOf F : Int) % 4 = 1 ∧ disc = s * (freeOf F : Int) ∧ f = (rootOf F : Int)) ∨ (s * (freeOf F : Int) % 4 ≠ 1 ∧ disc = s * (freeOf F : Int) * 4 ∧ f = (rootOf F : Int) / 2)) ∧ Below w.heap.size w w' := by
  have hn : 1 ≤ n := by omega
  have HSG : Hid ((d < 0 → s = -1) ∧ (0 ≤ d → s = 1)) := by
    constructor
    · intro h; rw [hs]; unfold sgn; rw [if_pos h]
    · intro h; rw [hs]; unfold sgn; rw [if_neg (by omega)]
  have HFI : Hid (FacIs 2 n F) := by rw [← hFF]; exact facs_two_is hn
  have hlenI : (F.length : Int) ≤ 2147483647 := by have := HFI.out.len; omega
  have hfac := fun W => refFactor_any n W hn hn2
  rw [hFF] at hfac
  have HFA := Lib.hid hfac
  have h40 : 0 ≤ d % 4 := Int.emod_nonneg _ (by omega)
  have hd1 : (d == 0) = false := by simpa using hd0
  have hda : -2147483647 ≤ d ∧ d ≤ 2147483647 := by omega
  obtain ⟨hda1, hda2⟩ := hda
  have HNN : Hid ((d < 0 → -d = (n : Int)) ∧ (0 ≤ d → d = (n : Int))) := by show _ ∧ _; omega
  clear hs hFF hfac hdn hd0
  have HFIN : Hid (∀ z y : Int, z = (freeOf F : Int) → y = (rootOf F : Int) → ∀ disc f : Int, ((s * z % 4 = 1 ∧ disc = s * z ∧ f = y) ∨ (s * z % 4 ≠ 1 ∧ disc = s * z * 4 ∧ f = y / 2)) →
      Hid ((s * (freeOf F : Int) % 4 = 1 ∧ disc = s * (freeOf F : Int) ∧ f = (rootOf F : Int)) ∨ (s * (freeOf F : Int) % 4 ≠ 1 ∧ disc = s * (freeOf F : Int) * 4 ∧ f = (rootOf F : Int) / 2))) := fun z y hz hy disc f h => by
    subst hz; subst hy; exact h
  have HCO : Hid (∀ k : Nat, ∀ z : Int, k = F.length → z = (freeOf (F.take k) : Int) → z = (freeOf F : Int)) := fun k z hk hz => by
    subst hk; rwa [List.take_length] at hz
  have HCR : Hid (∀ k : Nat, ∀ y : Int, k = F.length → y = (rootOf (F.take k) : Int) → y = (rootOf F : Int)) := fun k z hk hz => by
    subst hk; rwa [List.take_length] at hz
  go_enter Try.func41, Try.ntmps41
  rcases Int.lt_or_le d 0 with hneg | hneg
  · have hN := HNN.out.1 hneg
    go_wp2_with (first
      | (go_at_call 50; ((with_reducible refine (refMod_any _ _ _ (by omega) (by omega)).mono ?_); rintro e w' ⟨rfl, rfl⟩)))
    refine (HFA.out _).mono ?_
    rintro e w1 ⟨v, rfl, hown, hb⟩
    have HB := Lib.hid hb
    have hsz := hb.size
    clear HFA hb
    · have HSV := Lib.hid (HSG.out.1 hneg)
      rcases own_shape hown with ⟨rfl, rfl⟩ | ⟨g, cap, rfl, hg, hgs, hcap, hcell⟩
      · clear hown
        go_wp2
        refine wp_loop_rounds 1 ?_
        rw [rounds_succ]
        have HE := Lib.hid (HFIN.out 1 1 rfl rfl)
        go_wp2_with (first | (go_at_call 50; ((with_reducible refine (refMod_any _ _ _ (by omega) (by omega)).mono ?_); rintro e w' ⟨rfl, rfl⟩)))
        exact bodyPost_ret (results_tmp3 rfl _ _ _) rfl ⟨_, _, rfl, HE.out _ _ (by rw [HSV.out]; decide), HB.out⟩
      · have HL := Lib.hid hcell
        clear hcell hown
        go_wp2
        go_loop [7, 8, 10, 11] (fun D Y i _ => ∃ (k : Nat) (z y : Int), k ≤ F.length ∧ i = .int .i64 k ∧ D = .int .i64 z ∧ Y = .int .i64 y ∧ (0 ≤ z ∧ z ≤ 2147483647) ∧ (0 ≤ y ∧ y ≤ 2147483647) ∧ Hid (z = (freeOf (F.take k) : Int)) ∧ Hid (y = (rootOf (F.take k) : Int))) (fun _ _ i _ => F.length - (intOf i).toNat)
        case atStart => exact ⟨0, 1, 1, Nat.zero_le _, rfl, rfl, rfl, by omega, by omega, rfl, rfl⟩
        case round =>
          obtain ⟨k, z, y, hk, rfl, rfl, rfl, ⟨z1, z2⟩, ⟨y1, y2⟩, HZ, HY⟩ := hrel
          by_cases hlt : k < F.length
          · have c1 := (HL.out k hlt).1
            have c2 := (HL.out k hlt).2
            have hlt2 : (k : Int) < (F.length : Int) := by omega
            obtain ⟨s1, s2, s3, s4, s5, s6, s7, s8⟩ := fund_step HFI.out hlt
            have HP2 : Hid (∀ j : Nat, j ≤ F[k].2 / 2 → y * (F[k].1 : Int) ^ j ≤ 2147483647) := fun j hj => by
              have h1 : rootOf (F.take k) * F[k].1 ^ j ≤ rootOf (F.take k) * F[k].1 ^ (F[k].2 / 2) := Nat.mul_le_mul_left _ (Nat.pow_le_pow_right (by omega) hj)
              rw [HY.out, ← Int.natCast_pow, ← Int.natCast_mul]
              omega
            have HY2 : Hid (y * (F[k].1 : Int) ^ (F[k].2 / 2) = (rootOf (F.take (k + 1)) : Int)) := by
              show _ = _
              rw [s3, HY.out, Int.natCast_mul, Int.natCast_pow]
            have HZ2 : Hid ((F[k].2 % 2 = 1 → z * (F[k].1 : Int) = (freeOf (F.take (k + 1)) : Int)) ∧ (¬ F[k].2 % 2 = 1 → z = (freeOf (F.take (k + 1)) : Int))) := by
              constructor
              · intro h
                rw [s1, HZ.out, Int.natCast_mul]
                unfold oddOf
                rw [if_pos h]
              · intro h
                rw [s1, HZ.out, Int.natCast_mul]
                unfold oddOf
                rw [if_neg h]
                simp
            have HZ3 : Hid (0 ≤ (freeOf (F.take (k + 1)) : Int) ∧ (freeOf (F.take (k + 1)) : Int) ≤ 2147483647) := by show _ ∧ _; omega
            have hp2 : (F[k].1 : Int) ≤ 2147483647 := by omega
            have he2 : (F[k].2 : Int) ≤ 2147483647 := by omega
            clear s1 s2 s3 s4 s6 s7 s8
            generalize F[k].1 = p at *
            generalize F[k].2 = q at *
            go_wp2
            go_loop [8, 11] (fun Y J => ∃ (j : Nat) (x : Int), J = .int .i64 j ∧ (j : Int) ≤ (q : Int) / 2 ∧ Y = .int .i64 x ∧ 0 ≤ x ∧ x ≤ 2147483647 ∧ Hid (x = y * (p : Int) ^ j)) (fun _ J => q - (intOf J).toNat)
            case atStart => exact ⟨0, y, rfl, by omega, rfl, y1, y2, by show _ = _; simp⟩
            case round =>
              obtain ⟨j, x, rfl, hj, rfl, x1, x2, HX⟩ := hrel
              by_cases hjl : (j : Int) < (q : Int) / 2
              · have hx3 : 0 ≤ x * (p : Int) := Int.mul_nonneg x1 (by omega)
                have HX2 : Hid (x * (p : Int) = y * (p : Int) ^ (j + 1)) := by
                  show _ = _
                  rw [HX.out, Int.pow_succ]; grind
                have hx4 : x * (p : Int) ≤ 2147483647 := by rw [HX2.out]; exact HP2.out (j + 1) (by omega)
                go_wp2
                go_round
                case rel => exact ⟨j + 1, x * (p : Int), by go_num, by omega, rfl, hx3, hx4, HX2⟩
                case measure => simp [intOf]; omega
              · have HX3 : Hid (x = (rootOf (F.take (k + 1)) : Int)) := by
                  show _ = _
                  rw [← HY2.out, HX.out, show j = q / 2 by omega]
                by_cases hodd : q % 2 = 1
                · have ho : ((q : Int) % 2 == 1) = true := by rw [beq_iff_eq]; omega
                  have HZ4 := Lib.hid (HZ2.out.1 hodd)
                  have hz5 : 0 ≤ z * (p : Int) ∧ z * (p : Int) ≤ 2147483647 := by rw [HZ4.out]; exact HZ3.out
                  obtain ⟨hz6, hz7⟩ := hz5
                  clear HZ2 HZ3 hodd
                  go_wp2
                  go_round
                  case rel => exact ⟨k + 1, z * (p : Int), x, hlt, by go_num, rfl, rfl, ⟨hz6, hz7⟩, ⟨x1, x2⟩, HZ4, HX3⟩
                  case measure => simp [intOf]; omega
                · have ho : ((q : Int) % 2 == 1) = false := by rw [beq_eq_false_iff_ne]; omega
                  have HZ4 := Lib.hid (HZ2.out.2 hodd)
                  clear HZ2 HZ3 hodd
                  go_wp2
                  go_round
                  case rel => exact ⟨k + 1, z, x, hlt, by go_num, rfl, rfl, ⟨z1, z2⟩, ⟨x1, x2⟩, HZ4, HX3⟩
                  case measure => simp [intOf]; omega
          · have hkl : k = F.length := by omega
            have HE := Lib.hid (HFIN.out z y (HCO.out k z hkl HZ.out) (HCR.out k y hkl HY.out))
            have hn1 : ¬ (k : Int) < (F.length : Int) := by omega
            clear hkl HZ HY
            by_cases hz : -z % 4 = 1
            · have hz2 : (-z % 4 == 1) = true := by rw [beq_iff_eq]; exact hz
              have HE2 := Lib.hid (HE.out (-z) y (.inl ⟨by rw [HSV.out]; omega, by rw [HSV.out]; omega, rfl⟩))
              clear hz HE
              go_wp2_with (first | (go_at_call 50; ((with_reducible refine (refMod_any _ _ _ (by omega) (by omega)).mono ?_); rintro e w' ⟨rfl, rfl⟩)))
              exact bodyPost_ret (results_tmp3 rfl _ _ _) rfl ⟨_, _, rfl, HE2.out, HB.out⟩
            · have hz2 : (-z % 4 == 1) = false := by rw [beq_eq_false_iff_ne]; exact hz
              have HE2 := Lib.hid (HE.out (4 * -1 * z) (y / 2) (.inr ⟨by rw [HSV.out]; omega, by rw [HSV.out]; omega, rfl⟩))
              clear hz HE
              go_wp2_with (first | (go_at_call 50; ((with_reducible refine (refMod_any _ _ _ (by omega) (by omega)).mono ?_); rintro e w' ⟨rfl, rfl⟩)))
              exact bodyPost_ret (results_tmp3 rfl _ _ _) rfl ⟨_, _, rfl, HE2.out, HB.out⟩
  · obtain rfl : d = (n : Int) := HNN.out.2 hneg
    go_wp2_with (first
      | (go_at_call 50; ((with_reducible refine (refMod_any _ _ _ (by omega) (by omega)).mono ?_); rintro e w' ⟨rfl, rfl⟩)))
    refine (HFA.out _).mono ?_
    rintro e w1 ⟨v, rfl, hown, hb⟩
    have HB := Lib.hid hb
    have hsz := hb.size
    clear HFA hb
    · have HSV := Lib.hid (HSG.out.2 hneg)
      rcases own_shape hown with ⟨rfl, rfl⟩ | ⟨g, cap, rfl, hg, hgs, hcap, hcell⟩
      · clear hown
        go_wp2
        refine wp_loop_rounds 1 ?_
        rw [rounds_succ]
        have HE := Lib.hid (HFIN.out 1 1 rfl rfl)
        go_wp2_with (first | (go_at_call 50; ((with_reducible refine (refMod_any _ _ _ (by omega) (by omega)).mono ?_); rintro e w' ⟨rfl, rfl⟩)))
        exact bodyPost_ret (results_tmp3 rfl _ _ _) rfl ⟨_, _, rfl, HE.out _ _ (by rw [HSV.out]; decide), HB.out⟩
      · have HL := Lib.hid hcell
        clear hcell hown
        go_wp2
        go_loop [7, 8, 10, 11] (fun D Y i _ => ∃ (k : Nat) (z y : Int), k ≤ F.length ∧ i = .int .i64 k ∧ D = .int .i64 z ∧ Y = .int .i64 y ∧ (0 ≤ z ∧ z ≤ 2147483647) ∧ (0 ≤ y ∧ y ≤ 2147483647) ∧ Hid (z = (freeOf (F.take k) : Int)) ∧ Hid (y = (rootOf (F.take k) : Int))) (fun _ _ i _ => F.length - (intOf i).toNat)
        case atStart => exact ⟨0, 1, 1, Nat.zero_le _, rfl, rfl, rfl, by omega, by omega, rfl, rfl⟩
        case round =>
          obtain ⟨k, z, y, hk, rfl, rfl, rfl, ⟨z1, z2⟩, ⟨y1, y2⟩, HZ, HY⟩ := hrel
          by_cases hlt : k < F.length
          · have c1 := (HL.out k hlt).1
            have c2 := (HL.out k hlt).2
            have hlt2 : (k : Int) < (F.length : Int) := by omega
            obtain ⟨s1, s2, s3, s4, s5, s6, s7, s8⟩ := fund_step HFI.out hlt
            have HP2 : Hid (∀ j : Nat, j ≤ F[k].2 / 2 → y * (F[k].1 : Int) ^ j ≤ 2147483647) := fun j hj => by
              have h1 : rootOf (F.take k) * F[k].1 ^ j ≤ rootOf (F.take k) * F[k].1 ^ (F[k].2 / 2) := Nat.mul_le_mul_left _ (Nat.pow_le_pow_right (by omega) hj)
              rw [HY.out, ← Int.natCast_pow, ← Int.natCast_mul]
              omega
            have HY2 : Hid (y * (F[k].1 : Int) ^ (F[k].2 / 2) = (rootOf (F.take (k + 1)) : Int)) := by
              show _ = _
              rw [s3, HY.out, Int.natCast_mul, Int.natCast_pow]
            have HZ2 : Hid ((F[k].2 % 2 = 1 → z * (F[k].1 : Int) = (freeOf (F.take (k + 1)) : Int)) ∧ (¬ F[k].2 % 2 = 1 → z = (freeOf (F.take (k + 1)) : Int))) := by
              constructor
              · intro h
                rw [s1, HZ.out, Int.natCast_mul]
                unfold oddOf
                rw [if_pos h]
              · intro h
                rw [s1, HZ.out, Int.natCast_mul]
                unfold oddOf
                rw [if_neg h]
                simp
            have HZ3 : Hid (0 ≤ (freeOf (F.take (k + 1)) : Int) ∧ (freeOf (F.take (k + 1)) : Int) ≤ 2147483647) := by show _ ∧ _; omega
            have hp2 : (F[k].1 : Int) ≤ 2147483647 := by omega
            have he2 : (F[k].2 : Int) ≤ 2147483647 := by omega
            clear s1 s2 s3 s4 s6 s7 s8
            generalize F[k].1 = p at *
            generalize F[k].2 = q at *
            go_wp2
            go_loop [8, 11] (fun Y J => ∃ (j : Nat) (x : Int), J = .int .i64 j ∧ (j : Int) ≤ (q : Int) / 2 ∧ Y = .int .i64 x ∧ 0 ≤ x ∧ x ≤ 2147483647 ∧ Hid (x = y * (p : Int) ^ j)) (fun _ J => q - (intOf J).toNat)
            case atStart => exact ⟨0, y, rfl, by omega, rfl, y1, y2, by show _ = _; simp⟩
            case round =>
              obtain ⟨j, x, rfl, hj, rfl, x1, x2, HX⟩ := hrel
              by_cases hjl : (j : Int) < (q : Int) / 2
              · have hx3 : 0 ≤ x * (p : Int) := Int.mul_nonneg x1 (by omega)
                have HX2 : Hid (x * (p : Int) = y * (p : Int) ^ (j + 1)) := by
                  show _ = _
                  rw [HX.out, Int.pow_succ]; grind
                have hx4 : x * (p : Int) ≤ 2147483647 := by rw [HX2.out]; exact HP2.out (j + 1) (by omega)
                go_wp2
                go_round
                case rel => exact ⟨j + 1, x * (p : Int), by go_num, by omega, rfl, hx3, hx4, HX2⟩
                case measure => simp [intOf]; omega
              · have HX3 : Hid (x = (rootOf (F.take (k + 1)) : Int)) := by
                  show _ = _
                  rw [← HY2.out, HX.out, show j = q / 2 by omega]
                by_cases hodd : q % 2 = 1
                · have ho : ((q : Int) % 2 == 1) = true := by rw [beq_iff_eq]; omega
                  have HZ4 := Lib.hid (HZ2.out.1 hodd)
                  have hz5 : 0 ≤ z * (p : Int) ∧ z * (p : Int) ≤ 2147483647 := by rw [HZ4.out]; exact HZ3.out
                  obtain ⟨hz6, hz7⟩ := hz5
                  clear HZ2 HZ3 hodd
                  go_wp2
                  go_round
                  case rel => exact ⟨k + 1, z * (p : Int), x, hlt, by go_num, rfl, rfl, ⟨hz6, hz7⟩, ⟨x1, x2⟩, HZ4, HX3⟩
                  case measure => simp [intOf]; omega
                · have ho : ((q : Int) % 2 == 1) = false := by rw [beq_eq_false_iff_ne]; omega
                  have HZ4 := Lib.hid (HZ2.out.2 hodd)
                  clear HZ2 HZ3 hodd
                  go_wp2
                  go_round
                  case rel => exact ⟨k + 1, z, x, hlt, by go_num, rfl, rfl, ⟨z1, z2⟩, ⟨x1, x2⟩, HZ4, HX3⟩
                  case measure => simp [intOf]; omega
          · have hkl : k = F.length := by omega
            have HE := Lib.hid (HFIN.out z y (HCO.out k z hkl HZ.out) (HCR.out k y hkl HY.out))
            have hn1 : ¬ (k : Int) < (F.length : Int) := by omega
            clear hkl HZ HY
            by_cases hz : z % 4 = 1
            · have hz2 : (z % 4 == 1) = true := by rw [beq_iff_eq]; exact hz
              have HE2 := Lib.hid (HE.out (z) y (.inl ⟨by rw [HSV.out]; omega, by rw [HSV.out]; omega, rfl⟩))
              clear hz HE
              go_wp2_with (first | (go_at_call 50; ((with_reducible refine (refMod_any _ _ _ (by omega) (by omega)).mono ?_); rintro e w' ⟨rfl, rfl⟩)))
              exact bodyPost_ret (results_tmp3 rfl _ _ _) rfl ⟨_, _, rfl, HE2.out, HB.out⟩
            · have hz2 : (z % 4 == 1) = false := by rw [beq_eq_false_iff_ne]; exact hz
              have HE2 := Lib.hid (HE.out (4 * z) (y / 2) (.inr ⟨by rw [HSV.out]; omega, by rw [HSV.out]; omega, rfl⟩))
              clear hz HE
              go_wp2_with (first | (go_at_call 50; ((with_reducible refine (refMod_any _ _ _ (by omega) (by omega)).mono ?_); rintro e w' ⟨rfl, rfl⟩)))
              exact bodyPost_ret (results_tmp3 rfl _ _ _) rfl ⟨_, _, rfl, HE2.out, HB.out⟩
end Go.Proofs.Ytdhlkffblipbmaa
