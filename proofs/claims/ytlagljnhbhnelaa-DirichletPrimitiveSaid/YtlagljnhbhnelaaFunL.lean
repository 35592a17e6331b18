/- The contract of arith.Fundamental. -/
import Derived.Test.YtlagljnhbhnelaaArL
import Derived.Test.YtlagljnhbhnelaaInvL
import Derived.Deep.OwnRows
import Derived.Laws.MakeOwn
import Derived.Deep.Cut
import Derived.WalkSmall
namespace Go.Proofs.Ytlagljnhbhnelaa
open Go.RowKit
set_option linter.unusedVariables false
set_option linter.unusedSimpArgs false

theorem results_tmp3 {fn : Func} {t u v : Tmp} (h : fn.results = #[.tmp t, .tmp u, .tmp v]) (tmps : Array Value) (P : Program) (w : World) :
    (results fn tmps).run P w = .ok (.tuple #[tmps.getD t undef, tmps.getD u undef, tmps.getD v undef]) w := by simp [results, h]
/-- The answer: the fundamental discriminant and the conductor. -/
def sgn (d : Int) : Int := if d < 0 then -1 else 1
def FundIs (d disc f : Int) : Prop :=
  (sgn d * (freeOf (facs 2 d.natAbs) : Int) % 4 = 1 ∧ disc = sgn d * (freeOf (facs 2 d.natAbs) : Int) ∧ f = (rootOf (facs 2 d.natAbs) : Int)) ∨
  (sgn d * (freeOf (facs 2 d.natAbs) : Int) % 4 ≠ 1 ∧ disc = sgn d * (freeOf (facs 2 d.natAbs) : Int) * 4 ∧ f = (rootOf (facs 2 d.natAbs) : Int) / 2)
theorem FundIs.unique {d x f y g : Int} (h : FundIs d x f) (k : FundIs d y g) : x = y ∧ f = g := by
  rcases h with ⟨h0, rfl, rfl⟩ | ⟨h0, rfl, rfl⟩ <;> rcases k with ⟨k0, rfl, rfl⟩ | ⟨k0, rfl, rfl⟩
  · exact ⟨rfl, rfl⟩
  · exact absurd h0 k0
  · exact absurd k0 h0
  · exact ⟨rfl, rfl⟩
theorem sgn_bound {s : Int} (hs : s = 1 ∨ s = -1) {a : Nat} {n : Nat} (h : a ≤ n) (hn : (n : Int) ≤ 2147483647) : -2147483647 ≤ s * (a : Int) ∧ s * (a : Int) ≤ 2147483647 := by
  rcases hs with rfl | rfl <;> omega

set_option maxHeartbeats 1600000 in
set_option maxRecDepth 1000000 in
theorem fund_F (d s : Int) (n : Nat) (F : List (Nat × Nat)) (w : World) (hs : s = sgn d) (hd0 : d ≠ 0) (hdn : d.natAbs = n) (hn2 : (n : Int) ≤ 2147483647) (hFF : facs 2 n = F) (h4 : d % 4 < 2) :
    Calls Try.prog 62 #[.int .i64 d] w fun e w' => ∃ disc f : Int, e = .returned (.tuple #[.int .i64 disc, .int .i64 f, .int .i64 0]) ∧
      Hid ((s * (freeOf F : Int) % 4 = 1 ∧ disc = s * (freeOf F : Int) ∧ f = (rootOf F : Int)) ∨ (s * (freeOf F : Int) % 4 ≠ 1 ∧ disc = s * (freeOf F : Int) * 4 ∧ f = (rootOf F : Int) / 2)) ∧ Below w.heap.size w w' := by
  have hn : 1 ≤ n := by omega
  have hs2 : s = 1 ∨ s = -1 := by rw [hs]; unfold sgn; split <;> omega
  have HSG : Hid ((d < 0 → s = -1) ∧ (0 ≤ d → s = 1)) := by
    constructor
    · intro h; rw [hs]; unfold sgn; rw [if_pos h]
    · intro h; rw [hs]; unfold sgn; rw [if_neg (by omega)]
  have HS2 := Lib.hid hs2
  have HFI : Hid (FacIs 2 n F) := by rw [← hFF]; exact facs_two_is hn
  have hlenI : (F.length : Int) ≤ 2147483647 := by have := HFI.out.len; omega
  have hfac := fun W => factor_any n W hn hn2
  rw [hFF] at hfac
  have HFA := Lib.hid hfac
  have habs := fun W => absolute_any d W (by unfold Mid; omega)
  rw [hdn] at habs
  have HAB := Lib.hid habs
  have h40 : 0 ≤ d % 4 := Int.emod_nonneg _ (by omega)
  have hd1 : (d == 0) = false := by simpa using hd0
  have hda : -2147483647 ≤ d ∧ d ≤ 2147483647 := by omega
  obtain ⟨hda1, hda2⟩ := hda
  clear hs hs2 hFF hfac habs hdn hd0
  have HFIN : Hid (∀ z y : Int, z = s * (freeOf F : Int) → y = (rootOf F : Int) → ∀ disc f : Int, ((z % 4 = 1 ∧ disc = z ∧ f = y) ∨ (z % 4 ≠ 1 ∧ disc = z * 4 ∧ f = y / 2)) →
      Hid ((s * (freeOf F : Int) % 4 = 1 ∧ disc = s * (freeOf F : Int) ∧ f = (rootOf F : Int)) ∨ (s * (freeOf F : Int) % 4 ≠ 1 ∧ disc = s * (freeOf F : Int) * 4 ∧ f = (rootOf F : Int) / 2))) := fun z y hz hy disc f h => by
    subst hz; subst hy; exact h
  have HCO : Hid (∀ k : Nat, ∀ z : Int, k = F.length → z = s * (freeOf (F.take k) : Int) → z = s * (freeOf F : Int)) := fun k z hk hz => by
    subst hk; rwa [List.take_length] at hz
  have HCR : Hid (∀ k : Nat, ∀ y : Int, k = F.length → y = (rootOf (F.take k) : Int) → y = (rootOf F : Int)) := fun k z hk hz => by
    subst hk; rwa [List.take_length] at hz
  go_enter Try.func62, Try.ntmps62
  rcases Int.lt_or_le d 0 with hneg | hneg
  all_goals
    go_wp2_with (first
      | (go_at_call 71; ((with_reducible refine (HAB.out _).mono ?_); rintro e w' ⟨rfl, rfl⟩))
      | (go_at_call 73; ((with_reducible refine (residue_any _ _ _ (by omega) (by omega)).mono ?_); rintro e w' ⟨rfl, rfl⟩))
      | (go_at_call 67; fail))
    refine (HFA.out _).mono ?_
    rintro e w1 ⟨v, rfl, hown, hb⟩
    have HB := Lib.hid hb
    have hsz := hb.size
    clear HFA hb
  · have HSV := Lib.hid (HSG.out.1 hneg)
    rcases own_shape hown with ⟨rfl, rfl⟩ | ⟨g, cap, rfl, hg, hgs, hcap, hcell⟩
    · clear hown
      go_wp2
      refine wp_loop_rounds 1 ?_
      rw [rounds_succ]
      have HE := Lib.hid (HFIN.out (-1) 1 (by rw [HSV.out]; rfl) rfl)
      go_wp2_with (first | (go_at_call 73; ((with_reducible refine (residue_any _ _ _ (by omega) (by omega)).mono ?_); rintro e w' ⟨rfl, rfl⟩)))
      refine bodyPost_ret (results_tmp3 rfl _ _ _) rfl ⟨_, _, rfl, HE.out _ _ (by decide), HB.out⟩
    · have HL := Lib.hid hcell
      clear hcell hown
      go_wp2
      go_loopw [2, 3, 8, 30] (fun D Y _ i wr => ∃ (k : Nat) (z y : Int), k ≤ F.length ∧ i = .int .i64 k ∧ D = .int .i64 z ∧ Y = .int .i64 y ∧ (-2147483647 ≤ z ∧ z ≤ 2147483647) ∧ (0 ≤ y ∧ y ≤ 2147483647) ∧ Hid (z = s * (freeOf (F.take k) : Int)) ∧ Hid (y = (rootOf (F.take k) : Int)) ∧ Hid (Below w1.heap.size w1 wr)) (fun _ _ _ i _ => F.length - (intOf i).toNat)
      case atStart => exact ⟨0, -1, 1, Nat.zero_le _, rfl, rfl, rfl, by omega, by omega, by show _ = _; rw [HSV.out]; rfl, rfl, Below.refl _ _⟩
      case round =>
        obtain ⟨k, z, y, hk, rfl, rfl, rfl, ⟨z1, z2⟩, ⟨y1, y2⟩, HZ, HY, HBR⟩ := hrel
        have hsr := HBR.out.size
        by_cases hlt : k < F.length
        · have c1 := (HBR.out.cell (p := ⟨g, k * 2, none⟩) hgs).trans (HL.out k hlt).1
          have c2 := (HBR.out.cell (p := ⟨g, k * 2 + 1, none⟩) hgs).trans (HL.out k hlt).2
          have hlt2 : (k : Int) < (F.length : Int) := by omega
          obtain ⟨s1, s2, s3, s4, s5, s6, s7, s8⟩ := fund_step HFI.out hlt
          have HP2 : Hid (∀ j : Nat, j ≤ F[k].2 / 2 → y * (F[k].1 : Int) ^ j ≤ 2147483647) := fun j hj => by
            have h1 : rootOf (F.take k) * F[k].1 ^ j ≤ rootOf (F.take k) * F[k].1 ^ (F[k].2 / 2) := Nat.mul_le_mul_left _ (Nat.pow_le_pow_right (by omega) hj)
            rw [HY.out, ← Int.natCast_pow, ← Int.natCast_mul]
            omega
          have HY2 : Hid (y * (F[k].1 : Int) ^ (F[k].2 / 2) = (rootOf (F.take (k + 1)) : Int)) := by
            show _ = _
            rw [s3, HY.out, Int.natCast_mul, Int.natCast_pow]
          have HZ2 : Hid ((F[k].2 % 2 = 1 → z * (F[k].1 : Int) = s * (freeOf (F.take (k + 1)) : Int)) ∧ (¬ F[k].2 % 2 = 1 → z = s * (freeOf (F.take (k + 1)) : Int))) := by
            constructor
            · intro h
              rw [s1, HZ.out, Int.natCast_mul]
              unfold oddOf
              rw [if_pos h]
              grind
            · intro h
              rw [s1, HZ.out, Int.natCast_mul]
              unfold oddOf
              rw [if_neg h]
              simp
          have HZ3 : Hid (-2147483647 ≤ s * (freeOf (F.take (k + 1)) : Int) ∧ s * (freeOf (F.take (k + 1)) : Int) ≤ 2147483647) := sgn_bound HS2.out s2 hn2
          have hp2 : (F[k].1 : Int) ≤ 2147483647 := by omega
          have he2 : (F[k].2 : Int) ≤ 2147483647 := by omega
          clear s1 s2 s3 s4 s6 s7 s8
          generalize F[k].1 = p at *
          generalize F[k].2 = q at *
          by_cases hodd : q % 2 = 1
          · have ho : ((q : Int) % 2 == 1) = true := by rw [beq_iff_eq]; omega
            have HZ4 := Lib.hid (HZ2.out.1 hodd)
            have hz5 : -2147483647 ≤ z * (p : Int) ∧ z * (p : Int) ≤ 2147483647 := by rw [HZ4.out]; exact HZ3.out
            obtain ⟨hz6, hz7⟩ := hz5
            clear HZ2 HZ3 hodd
            go_wp2
            go_loop [3, 45] (fun Y J => ∃ (j : Nat) (x : Int), J = .int .i64 j ∧ (j : Int) ≤ (q : Int) / 2 ∧ Y = .int .i64 x ∧ 0 ≤ x ∧ x ≤ 2147483647 ∧ Hid (x = y * (p : Int) ^ j)) (fun _ J => q - (intOf J).toNat)
            case atStart => exact ⟨0, y, rfl, by omega, rfl, y1, y2, by show _ = _; simp⟩
            case round =>
              obtain ⟨j, x, rfl, hj, rfl, x1, x2, HX⟩ := hrel
              by_cases hjl : (j : Int) < (q : Int) / 2
              · have hx3 : 0 ≤ x * (p : Int) := Int.mul_nonneg x1 (by omega)
                have HX2 : Hid (x * (p : Int) = y * (p : Int) ^ (j + 1)) := by
                  show _ = _
                  rw [HX.out, Int.pow_succ]; grind
                have hx4 : x * (p : Int) ≤ 2147483647 := by rw [HX2.out]; exact HP2.out (j + 1) (by omega)
                go_wp2
                go_round
                case rel => exact ⟨j + 1, x * (p : Int), by go_num, by omega, rfl, hx3, hx4, HX2⟩
                case measure => simp [intOf]; omega
              · have HX3 : Hid (x = (rootOf (F.take (k + 1)) : Int)) := by
                  show _ = _
                  rw [← HY2.out, HX.out, show j = q / 2 by omega]
                go_wp2
                go_roundw
                case rel => exact ⟨k + 1, z * (p : Int), x, hlt, by go_num, rfl, rfl, ⟨hz6, hz7⟩, ⟨x1, x2⟩, HZ4, HX3, HBR.out.alloc hsr _⟩
                case measure => simp [intOf]; omega
          · have ho : ((q : Int) % 2 == 1) = false := by rw [beq_eq_false_iff_ne]; omega
            have HZ4 := Lib.hid (HZ2.out.2 hodd)
            clear HZ2 HZ3 hodd
            go_wp2
            go_loop [3, 45] (fun Y J => ∃ (j : Nat) (x : Int), J = .int .i64 j ∧ (j : Int) ≤ (q : Int) / 2 ∧ Y = .int .i64 x ∧ 0 ≤ x ∧ x ≤ 2147483647 ∧ Hid (x = y * (p : Int) ^ j)) (fun _ J => q - (intOf J).toNat)
            case atStart => exact ⟨0, y, rfl, by omega, rfl, y1, y2, by show _ = _; simp⟩
            case round =>
              obtain ⟨j, x, rfl, hj, rfl, x1, x2, HX⟩ := hrel
              by_cases hjl : (j : Int) < (q : Int) / 2
              · have hx3 : 0 ≤ x * (p : Int) := Int.mul_nonneg x1 (by omega)
                have HX2 : Hid (x * (p : Int) = y * (p : Int) ^ (j + 1)) := by
                  show _ = _
                  rw [HX.out, Int.pow_succ]; grind
                have hx4 : x * (p : Int) ≤ 2147483647 := by rw [HX2.out]; exact HP2.out (j + 1) (by omega)
                go_wp2
                go_round
                case rel => exact ⟨j + 1, x * (p : Int), by go_num, by omega, rfl, hx3, hx4, HX2⟩
                case measure => simp [intOf]; omega
              · have HX3 : Hid (x = (rootOf (F.take (k + 1)) : Int)) := by
                  show _ = _
                  rw [← HY2.out, HX.out, show j = q / 2 by omega]
                go_wp2
                go_roundw
                case rel => exact ⟨k + 1, z, x, hlt, by go_num, rfl, rfl, ⟨z1, z2⟩, ⟨x1, x2⟩, HZ4, HX3, HBR.out.alloc hsr _⟩
                case measure => simp [intOf]; omega
        · have hkl : k = F.length := by omega
          have HE := Lib.hid (HFIN.out z y (HCO.out k z hkl HZ.out) (HCR.out k y hkl HY.out))
          have HBF := Lib.hid (HB.out.trans (HBR.out.mono hsz))
          have hn1 : ¬ (k : Int) < (F.length : Int) := by omega
          clear hkl HZ HY
          by_cases hz : z % 4 = 1
          · have hz2 : (z % 4 != 1) = false := by rw [bne_eq_false_iff_eq]; exact hz
            have HE2 := Lib.hid (HE.out z y (.inl ⟨hz, rfl, rfl⟩))
            clear hz HE
            go_wp2_with (first | (go_at_call 73; ((with_reducible refine (residue_any _ _ _ (by omega) (by omega)).mono ?_); rintro e w' ⟨rfl, rfl⟩)))
            exact bodyPost_ret (results_tmp3 rfl _ _ _) rfl ⟨_, _, rfl, HE2.out, HBF.out⟩
          · have hz2 : (z % 4 != 1) = true := by rw [bne_iff_ne]; exact hz
            have HE2 := Lib.hid (HE.out (z * 4) (y / 2) (.inr ⟨hz, rfl, rfl⟩))
            clear hz HE
            go_wp2_with (first | (go_at_call 73; ((with_reducible refine (residue_any _ _ _ (by omega) (by omega)).mono ?_); rintro e w' ⟨rfl, rfl⟩)))
            exact bodyPost_ret (results_tmp3 rfl _ _ _) rfl ⟨_, _, rfl, HE2.out, HBF.out⟩
  · have HSV := Lib.hid (HSG.out.2 hneg)
    rcases own_shape hown with ⟨rfl, rfl⟩ | ⟨g, cap, rfl, hg, hgs, hcap, hcell⟩
    · clear hown
      go_wp2
      refine wp_loop_rounds 1 ?_
      rw [rounds_succ]
      have HE := Lib.hid (HFIN.out (1) 1 (by rw [HSV.out]; rfl) rfl)
      go_wp2_with (first | (go_at_call 73; ((with_reducible refine (residue_any _ _ _ (by omega) (by omega)).mono ?_); rintro e w' ⟨rfl, rfl⟩)))
      refine bodyPost_ret (results_tmp3 rfl _ _ _) rfl ⟨_, _, rfl, HE.out _ _ (by decide), HB.out⟩
    · have HL := Lib.hid hcell
      clear hcell hown
      go_wp2
      go_loopw [2, 3, 8, 30] (fun D Y _ i wr => ∃ (k : Nat) (z y : Int), k ≤ F.length ∧ i = .int .i64 k ∧ D = .int .i64 z ∧ Y = .int .i64 y ∧ (-2147483647 ≤ z ∧ z ≤ 2147483647) ∧ (0 ≤ y ∧ y ≤ 2147483647) ∧ Hid (z = s * (freeOf (F.take k) : Int)) ∧ Hid (y = (rootOf (F.take k) : Int)) ∧ Hid (Below w1.heap.size w1 wr)) (fun _ _ _ i _ => F.length - (intOf i).toNat)
      case atStart => exact ⟨0, 1, 1, Nat.zero_le _, rfl, rfl, rfl, by omega, by omega, by show _ = _; rw [HSV.out]; rfl, rfl, Below.refl _ _⟩
      case round =>
        obtain ⟨k, z, y, hk, rfl, rfl, rfl, ⟨z1, z2⟩, ⟨y1, y2⟩, HZ, HY, HBR⟩ := hrel
        have hsr := HBR.out.size
        by_cases hlt : k < F.length
        · have c1 := (HBR.out.cell (p := ⟨g, k * 2, none⟩) hgs).trans (HL.out k hlt).1
          have c2 := (HBR.out.cell (p := ⟨g, k * 2 + 1, none⟩) hgs).trans (HL.out k hlt).2
          have hlt2 : (k : Int) < (F.length : Int) := by omega
          obtain ⟨s1, s2, s3, s4, s5, s6, s7, s8⟩ := fund_step HFI.out hlt
          have HP2 : Hid (∀ j : Nat, j ≤ F[k].2 / 2 → y * (F[k].1 : Int) ^ j ≤ 2147483647) := fun j hj => by
            have h1 : rootOf (F.take k) * F[k].1 ^ j ≤ rootOf (F.take k) * F[k].1 ^ (F[k].2 / 2) := Nat.mul_le_mul_left _ (Nat.pow_le_pow_right (by omega) hj)
            rw [HY.out, ← Int.natCast_pow, ← Int.natCast_mul]
            omega
          have HY2 : Hid (y * (F[k].1 : Int) ^ (F[k].2 / 2) = (rootOf (F.take (k + 1)) : Int)) := by
            show _ = _
            rw [s3, HY.out, Int.natCast_mul, Int.natCast_pow]
          have HZ2 : Hid ((F[k].2 % 2 = 1 → z * (F[k].1 : Int) = s * (freeOf (F.take (k + 1)) : Int)) ∧ (¬ F[k].2 % 2 = 1 → z = s * (freeOf (F.take (k + 1)) : Int))) := by
            constructor
            · intro h
              rw [s1, HZ.out, Int.natCast_mul]
              unfold oddOf
              rw [if_pos h]
              grind
            · intro h
              rw [s1, HZ.out, Int.natCast_mul]
              unfold oddOf
              rw [if_neg h]
              simp
          have HZ3 : Hid (-2147483647 ≤ s * (freeOf (F.take (k + 1)) : Int) ∧ s * (freeOf (F.take (k + 1)) : Int) ≤ 2147483647) := sgn_bound HS2.out s2 hn2
          have hp2 : (F[k].1 : Int) ≤ 2147483647 := by omega
          have he2 : (F[k].2 : Int) ≤ 2147483647 := by omega
          clear s1 s2 s3 s4 s6 s7 s8
          generalize F[k].1 = p at *
          generalize F[k].2 = q at *
          by_cases hodd : q % 2 = 1
          · have ho : ((q : Int) % 2 == 1) = true := by rw [beq_iff_eq]; omega
            have HZ4 := Lib.hid (HZ2.out.1 hodd)
            have hz5 : -2147483647 ≤ z * (p : Int) ∧ z * (p : Int) ≤ 2147483647 := by rw [HZ4.out]; exact HZ3.out
            obtain ⟨hz6, hz7⟩ := hz5
            clear HZ2 HZ3 hodd
            go_wp2
            go_loop [3, 45] (fun Y J => ∃ (j : Nat) (x : Int), J = .int .i64 j ∧ (j : Int) ≤ (q : Int) / 2 ∧ Y = .int .i64 x ∧ 0 ≤ x ∧ x ≤ 2147483647 ∧ Hid (x = y * (p : Int) ^ j)) (fun _ J => q - (intOf J).toNat)
            case atStart => exact ⟨0, y, rfl, by omega, rfl, y1, y2, by show _ = _; simp⟩
            case round =>
              obtain ⟨j, x, rfl, hj, rfl, x1, x2, HX⟩ := hrel
              by_cases hjl : (j : Int) < (q : Int) / 2
              · have hx3 : 0 ≤ x * (p : Int) := Int.mul_nonneg x1 (by omega)
                have HX2 : Hid (x * (p : Int) = y * (p : Int) ^ (j + 1)) := by
                  show _ = _
                  rw [HX.out, Int.pow_succ]; grind
                have hx4 : x * (p : Int) ≤ 2147483647 := by rw [HX2.out]; exact HP2.out (j + 1) (by omega)
                go_wp2
                go_round
                case rel => exact ⟨j + 1, x * (p : Int), by go_num, by omega, rfl, hx3, hx4, HX2⟩
                case measure => simp [intOf]; omega
              · have HX3 : Hid (x = (rootOf (F.take (k + 1)) : Int)) := by
                  show _ = _
                  rw [← HY2.out, HX.out, show j = q / 2 by omega]
                go_wp2
                go_roundw
                case rel => exact ⟨k + 1, z * (p : Int), x, hlt, by go_num, rfl, rfl, ⟨hz6, hz7⟩, ⟨x1, x2⟩, HZ4, HX3, HBR.out.alloc hsr _⟩
                case measure => simp [intOf]; omega
          · have ho : ((q : Int) % 2 == 1) = false := by rw [beq_eq_false_iff_ne]; omega
            have HZ4 := Lib.hid (HZ2.out.2 hodd)
            clear HZ2 HZ3 hodd
            go_wp2
            go_loop [3, 45] (fun Y J => ∃ (j : Nat) (x : Int), J = .int .i64 j ∧ (j : Int) ≤ (q : Int) / 2 ∧ Y = .int .i64 x ∧ 0 ≤ x ∧ x ≤ 2147483647 ∧ Hid (x = y * (p : Int) ^ j)) (fun _ J => q - (intOf J).toNat)
            case atStart => exact ⟨0, y, rfl, by omega, rfl, y1, y2, by show _ = _; simp⟩
            case round =>
              obtain ⟨j, x, rfl, hj, rfl, x1, x2, HX⟩ := hrel
              by_cases hjl : (j : Int) < (q : Int) / 2
              · have hx3 : 0 ≤ x * (p : Int) := Int.mul_nonneg x1 (by omega)
                have HX2 : Hid (x * (p : Int) = y * (p : Int) ^ (j + 1)) := by
                  show _ = _
                  rw [HX.out, Int.pow_succ]; grind
                have hx4 : x * (p : Int) ≤ 2147483647 := by rw [HX2.out]; exact HP2.out (j + 1) (by omega)
                go_wp2
                go_round
                case rel => exact ⟨j + 1, x * (p : Int), by go_num, by omega, rfl, hx3, hx4, HX2⟩
                case measure => simp [intOf]; omega
              · have HX3 : Hid (x = (rootOf (F.take (k + 1)) : Int)) := by
                  show _ = _
                  rw [← HY2.out, HX.out, show j = q / 2 by omega]
                go_wp2
                go_roundw
                case rel => exact ⟨k + 1, z, x, hlt, by go_num, rfl, rfl, ⟨z1, z2⟩, ⟨x1, x2⟩, HZ4, HX3, HBR.out.alloc hsr _⟩
                case measure => simp [intOf]; omega
        · have hkl : k = F.length := by omega
          have HE := Lib.hid (HFIN.out z y (HCO.out k z hkl HZ.out) (HCR.out k y hkl HY.out))
          have HBF := Lib.hid (HB.out.trans (HBR.out.mono hsz))
          have hn1 : ¬ (k : Int) < (F.length : Int) := by omega
          clear hkl HZ HY
          by_cases hz : z % 4 = 1
          · have hz2 : (z % 4 != 1) = false := by rw [bne_eq_false_iff_eq]; exact hz
            have HE2 := Lib.hid (HE.out z y (.inl ⟨hz, rfl, rfl⟩))
            clear hz HE
            go_wp2_with (first | (go_at_call 73; ((with_reducible refine (residue_any _ _ _ (by omega) (by omega)).mono ?_); rintro e w' ⟨rfl, rfl⟩)))
            exact bodyPost_ret (results_tmp3 rfl _ _ _) rfl ⟨_, _, rfl, HE2.out, HBF.out⟩
          · have hz2 : (z % 4 != 1) = true := by rw [bne_iff_ne]; exact hz
            have HE2 := Lib.hid (HE.out (z * 4) (y / 2) (.inr ⟨hz, rfl, rfl⟩))
            clear hz HE
            go_wp2_with (first | (go_at_call 73; ((with_reducible refine (residue_any _ _ _ (by omega) (by omega)).mono ?_); rintro e w' ⟨rfl, rfl⟩)))
            exact bodyPost_ret (results_tmp3 rfl _ _ _) rfl ⟨_, _, rfl, HE2.out, HBF.out⟩
end Go.Proofs.Ytlagljnhbhnelaa
