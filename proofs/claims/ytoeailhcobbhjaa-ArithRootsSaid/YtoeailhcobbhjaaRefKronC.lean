/- The contract of halfplaneref03.Kronecker: the walk. -/
import Derived.Test.YtoeailhcobbhjaaRefKron
namespace Go.Proofs.Ytoeailhcobbhjaa
open Go.RowKit
theorem tri_bound {x : Int} (h : x = 0 ∨ x = 1 ∨ x = -1) : -1 ≤ x ∧ x ≤ 1 := by omega
theorem pow_tri {z s : Int} {j : Nat} (hz : z = 0 ∨ z = 1 ∨ z = -1) (hs : s = 0 ∨ s = 1 ∨ s = -1) : -1 ≤ z * s ^ j ∧ z * s ^ j ≤ 1 := tri_bound (tri_mul hz (pow_cases hs j))
theorem halfp {p : Nat} (hp : Pr p) (h2 : p ≠ 2) : ((p : Int) - 1) / 2 = ((p / 2 : Nat) : Int) := by
  have := hp.1
  have := pr_odd hp (by omega)
  omega
theorem power_ctr {a : Int} {p : Nat} (hp : Pr p) (h2 : p ≠ 2) (hpb : (p : Int) ≤ 2147483647) : ∃ r : Int, (0 ≤ r ∧ r < (p : Int)) ∧ (r = (p : Int) - 1 → lg a p = -1) ∧ (r ≠ (p : Int) - 1 → lg a p = r) ∧
    ∀ x : Int, x = ((p : Int) - 1) / 2 → ∀ W : World, Calls Try.prog 49 #[.int .i64 a, .int .i64 x, .int .i64 (p : Int)] W fun e w' => e = .returned (.int .i64 r) ∧ ∃ q, w' = W.drewN q := by
  have := hp.1
  refine ⟨a ^ (p / 2) % (p : Int), ⟨Int.emod_nonneg _ (by omega), Int.emod_lt_of_pos _ (by omega)⟩, (power_lg hp h2).1, (power_lg hp h2).2, ?_⟩
  intro x hx W
  rw [hx, halfp hp h2]
  exact power_any a p (p / 2) W (by omega) hpb (by omega)
set_option maxHeartbeats 3200000 in
set_option maxRecDepth 1000000 in
theorem refKron_F (a n s0 : Int) (m : Nat) (F : List (Nat × Nat)) (w : World) (hn0 : n ≠ 0) (hm : n.natAbs = m) (hm2 : (m : Int) ≤ 2147483647) (hs : sg a n = s0) (hFF : facs 2 m = F) :
    Calls Try.prog 43 #[.int .i64 a, .int .i64 n] w fun e w' => e = .returned (.int .i64 (s0 * prodL a F)) ∧ Below w.heap.size w w' := by
  have hm1 : 1 ≤ m := by omega
  have HFI : Hid (FacIs 2 m F) := by rw [← hFF]; exact facs_two_is hm1
  have hlenI : (F.length : Int) ≤ 2147483647 := by have := HFI.out.len; omega
  have hfac := fun W => refFactor_any m W hm1 hm2
  rw [hFF] at hfac
  have HFA := Lib.hid hfac
  have HTW := Lib.hid (fun W => refTwo_any a W)
  have hn1 : (n == 0) = false := by simpa using hn0
  have hnb : -2147483647 ≤ n ∧ n ≤ 2147483647 := by omega
  obtain ⟨hnb1, hnb2⟩ := hnb
  have HNN : Hid ((n < 0 → -n = (m : Int)) ∧ (0 ≤ n → n = (m : Int))) := by show _ ∧ _; omega
  have HS0 : Hid ((n < 0 ∧ a < 0 → s0 = -1) ∧ (¬ (n < 0 ∧ a < 0) → s0 = 1)) := by
    unfold sg at hs
    constructor
    · intro h; rw [if_pos h] at hs; exact hs.symm
    · intro h; rw [if_neg h] at hs; exact hs.symm
  have HST : Hid (∀ L, s0 * prodL a L = 0 ∨ s0 * prodL a L = 1 ∨ s0 * prodL a L = -1) := fun L => by
    refine tri_mul ?_ (prodL_cases a L)
    by_cases h : n < 0 ∧ a < 0
    · exact .inr (.inr (HS0.out.1 h))
    · exact .inr (.inl (HS0.out.2 h))
  clear hs hFF hfac hm hn0
  go_enter Try.func43, Try.ntmps43
  rcases Int.lt_or_le n 0 with hneg | hneg
  · have hN := HNN.out.1 hneg
    by_cases han : a < 0
    · have HSV : Hid (s0 = (-1)) := HS0.out.1 ⟨hneg, han⟩
      go_wp2_with (first | (go_at_call 28; fail))
      refine (HFA.out _).mono ?_
      rintro e w1 ⟨v, rfl, hown, hb⟩
      have HB := Lib.hid hb
      have hsz := hb.size
      clear HFA hb
      rcases own_shape hown with ⟨rfl, rfl⟩ | ⟨g, cap, rfl, hg, hgs, hcap, hcell⟩
      · clear hown
        have HE : Hid (((-1) : Int) = s0 * prodL a []) := by show _ = _; rw [HSV.out]; simp [prodL]
        go_wp2
        refine wp_loop_rounds 1 ?_
        rw [rounds_succ]
        go_wp2
        go_ret
        exact ⟨ret_int' HE.out, HB.out⟩
      · have HL := Lib.hid hcell
        clear hcell hown
        go_wp2
        go_loopw [5, 7, 8, 9, 10] (fun O i _ _ _ wr => ∃ (k : Nat) (z : Int), k ≤ F.length ∧ i = .int .i64 k ∧ O = .int .i64 z ∧ Hid (z = s0 * prodL a (F.take k)) ∧ Hid (Below w1.heap.size w1 wr)) (fun _ i _ _ _ _ => F.length - (intOf i).toNat)
        case atStart => exact ⟨0, (-1), Nat.zero_le _, rfl, rfl, by show _ = _; rw [HSV.out]; simp [prodL], Below.refl _ _⟩
        case round =>
          obtain ⟨k, z, hk, rfl, rfl, HZ, HBR⟩ := hrel
          have hsr := HBR.out.size
          by_cases hlt : k < F.length
          · have c1 := (HBR.out.cell (p := ⟨g, k * 2, none⟩) hgs).trans (HL.out k hlt).1
            have c2 := (HBR.out.cell (p := ⟨g, k * 2 + 1, none⟩) hgs).trans (HL.out k hlt).2
            have hlt2 : (k : Int) < (F.length : Int) := by omega
            obtain ⟨_, _, _, _, s5, s6, s7, _⟩ := fund_step HFI.out hlt
            have HPR := Lib.hid (HFI.out.mem _ (List.getElem_mem hlt)).1
            have hp2 : (F[k].1 : Int) ≤ 2147483647 := by omega
            have he2 : (F[k].2 : Int) ≤ 2147483647 := by omega
            have HZ2 : Hid (z * lg a F[k].1 ^ F[k].2 = s0 * prodL a (F.take (k + 1))) := by
              show _ = _
              rw [HZ.out, prodL_take hlt, Int.mul_assoc]
            have HZT : Hid (z = 0 ∨ z = 1 ∨ z = -1) := by
              have := HST.out (F.take k)
              rw [← HZ.out] at this; exact this
            have HLG := Lib.hid (lg_cases a F[k].1)
            clear s6 s7
            generalize F[k].1 = p at *
            generalize F[k].2 = q at *
            by_cases hp : p = 2
            · subst hp
              have HSS : Hid (lg a 2 = val2 a) := rfl
              clear s5
              go_wp2_with (first
                | (go_at_call 74; ((with_reducible refine (HTW.out _).mono ?_); rintro e w' ⟨rfl, rfl⟩)))
              go_loop [5, 10] (fun O J => ∃ (j : Nat) (x : Int), J = .int .i64 j ∧ j ≤ q ∧ O = .int .i64 x ∧ Hid (x = z * lg a 2 ^ j)) (fun _ J => q - (intOf J).toNat)
              case atStart => exact ⟨0, z, rfl, by omega, rfl, by show _ = _; simp⟩
              case round =>
                obtain ⟨j, x, rfl, hj, rfl, HX⟩ := hrel
                by_cases hjl : j < q
                · have hjl2 : (j : Int) < (q : Int) := by omega
                  have HX2 : Hid (x * val2 a = z * lg a 2 ^ (j + 1)) := by
                    show _ = _
                    rw [HX.out, ← HSS.out, Int.pow_succ, Int.mul_assoc]
                  have hx3 : -1 ≤ x * val2 a ∧ x * val2 a ≤ 1 := by rw [HX2.out]; exact pow_tri HZT.out HLG.out
                  obtain ⟨hx4, hx5⟩ := hx3
                  go_wp2
                  go_round
                  case rel => exact ⟨j + 1, x * val2 a, by go_num, by omega, by first | rfl | go_num, HX2⟩
                  case measure => simp [intOf]; omega
                · have hj2 : ¬ (j : Int) < (q : Int) := by omega
                  have HX3 : Hid (x = s0 * prodL a (F.take (k + 1))) := by
                    show _ = _
                    rw [HX.out, show j = q by omega, HZ2.out]
                  go_wp2
                  go_roundw
                  case rel => exact ⟨k + 1, x, hlt, by go_num, rfl, HX3, HBR.out⟩
                  case measure => simp [intOf]; omega
            · have hp3 : (2 : Int) < (p : Int) := by omega
              obtain ⟨r, ⟨r1, r2⟩, r3, r4, hpw⟩ := power_ctr (a := a) HPR.out hp hp2
              have HPW := Lib.hid hpw
              have R3 := Lib.hid r3
              have R4 := Lib.hid r4
              clear r3 r4 hpw hp s5
              have d2 := fun N => (show (wr.drewN N).cell? ⟨g, k * 2 + 1, none⟩ = _ from c2)
              by_cases hr : r = (p : Int) - 1
              · have HSS := Lib.hid (R3.out hr)
                have hr2 : (r == (p : Int) - 1) = true := by rw [beq_iff_eq]; exact hr
                clear hr R3 R4
                go_wp2_with (first
                  | (go_at_call 74; ((with_reducible refine (HTW.out _).mono ?_); rintro e w' ⟨rfl, rfl⟩))
                  | (go_at_call 49; ((with_reducible refine (HPW.out _ (by omega) _).mono ?_); rintro e w' ⟨rfl, N, rfl⟩)))
                go_loop [5, 10] (fun O J => ∃ (j : Nat) (x : Int), J = .int .i64 j ∧ j ≤ q ∧ O = .int .i64 x ∧ Hid (x = z * lg a p ^ j)) (fun _ J => q - (intOf J).toNat)
                case atStart => exact ⟨0, z, rfl, by omega, rfl, by show _ = _; simp⟩
                case round =>
                  obtain ⟨j, x, rfl, hj, rfl, HX⟩ := hrel
                  by_cases hjl : j < q
                  · have hjl2 : (j : Int) < (q : Int) := by omega
                    have HX2 : Hid (x * (-1) = z * lg a p ^ (j + 1)) := by
                      show _ = _
                      rw [HX.out, ← HSS.out, Int.pow_succ, Int.mul_assoc]
                    have hx3 : -1 ≤ x * (-1) ∧ x * (-1) ≤ 1 := by rw [HX2.out]; exact pow_tri HZT.out HLG.out
                    obtain ⟨hx4, hx5⟩ := hx3
                    go_wp2
                    go_round
                    case rel => exact ⟨j + 1, x * (-1), by go_num, by omega, by first | rfl | go_num, HX2⟩
                    case measure => simp [intOf]; omega
                  · have hj2 : ¬ (j : Int) < (q : Int) := by omega
                    have HX3 : Hid (x = s0 * prodL a (F.take (k + 1))) := by
                      show _ = _
                      rw [HX.out, show j = q by omega, HZ2.out]
                    go_wp2
                    go_roundw
                    case rel => exact ⟨k + 1, x, hlt, by go_num, rfl, HX3, below_drewN HBR.out N⟩
                    case measure => simp [intOf]; omega
              · have HSS := Lib.hid (R4.out hr)
                have hr2 : (r == (p : Int) - 1) = false := by rw [beq_eq_false_iff_ne]; exact hr
                clear hr R3 R4
                go_wp2_with (first
                  | (go_at_call 74; ((with_reducible refine (HTW.out _).mono ?_); rintro e w' ⟨rfl, rfl⟩))
                  | (go_at_call 49; ((with_reducible refine (HPW.out _ (by omega) _).mono ?_); rintro e w' ⟨rfl, N, rfl⟩)))
                go_loop [5, 10] (fun O J => ∃ (j : Nat) (x : Int), J = .int .i64 j ∧ j ≤ q ∧ O = .int .i64 x ∧ Hid (x = z * lg a p ^ j)) (fun _ J => q - (intOf J).toNat)
                case atStart => exact ⟨0, z, rfl, by omega, rfl, by show _ = _; simp⟩
                case round =>
                  obtain ⟨j, x, rfl, hj, rfl, HX⟩ := hrel
                  by_cases hjl : j < q
                  · have hjl2 : (j : Int) < (q : Int) := by omega
                    have HX2 : Hid (x * r = z * lg a p ^ (j + 1)) := by
                      show _ = _
                      rw [HX.out, ← HSS.out, Int.pow_succ, Int.mul_assoc]
                    have hx3 : -1 ≤ x * r ∧ x * r ≤ 1 := by rw [HX2.out]; exact pow_tri HZT.out HLG.out
                    obtain ⟨hx4, hx5⟩ := hx3
                    go_wp2
                    go_round
                    case rel => exact ⟨j + 1, x * r, by go_num, by omega, by first | rfl | go_num, HX2⟩
                    case measure => simp [intOf]; omega
                  · have hj2 : ¬ (j : Int) < (q : Int) := by omega
                    have HX3 : Hid (x = s0 * prodL a (F.take (k + 1))) := by
                      show _ = _
                      rw [HX.out, show j = q by omega, HZ2.out]
                    go_wp2
                    go_roundw
                    case rel => exact ⟨k + 1, x, hlt, by go_num, rfl, HX3, below_drewN HBR.out N⟩
                    case measure => simp [intOf]; omega
          · have hkl : k = F.length := by omega
            have HE : Hid (z = s0 * prodL a F) := by
              show _ = _
              rw [HZ.out, hkl, List.take_length]
            have hn1 : ¬ (k : Int) < (F.length : Int) := by omega
            clear hkl HZ
            go_wp2
            go_ret
            exact ⟨ret_int' HE.out, HB.out.trans (HBR.out.mono hsz)⟩
    · have HSV : Hid (s0 = 1) := HS0.out.2 (fun h => han h.2)
      go_wp2_with (first | (go_at_call 28; fail))
      refine (HFA.out _).mono ?_
      rintro e w1 ⟨v, rfl, hown, hb⟩
      have HB := Lib.hid hb
      have hsz := hb.size
      clear HFA hb
      rcases own_shape hown with ⟨rfl, rfl⟩ | ⟨g, cap, rfl, hg, hgs, hcap, hcell⟩
      · clear hown
        have HE : Hid ((1 : Int) = s0 * prodL a []) := by show _ = _; rw [HSV.out]; simp [prodL]
        go_wp2
        refine wp_loop_rounds 1 ?_
        rw [rounds_succ]
        go_wp2
        go_ret
        exact ⟨ret_int' HE.out, HB.out⟩
      · have HL := Lib.hid hcell
        clear hcell hown
        go_wp2
        go_loopw [5, 7, 8, 9, 10] (fun O i _ _ _ wr => ∃ (k : Nat) (z : Int), k ≤ F.length ∧ i = .int .i64 k ∧ O = .int .i64 z ∧ Hid (z = s0 * prodL a (F.take k)) ∧ Hid (Below w1.heap.size w1 wr)) (fun _ i _ _ _ _ => F.length - (intOf i).toNat)
        case atStart => exact ⟨0, 1, Nat.zero_le _, rfl, rfl, by show _ = _; rw [HSV.out]; simp [prodL], Below.refl _ _⟩
        case round =>
          obtain ⟨k, z, hk, rfl, rfl, HZ, HBR⟩ := hrel
          have hsr := HBR.out.size
          by_cases hlt : k < F.length
          · have c1 := (HBR.out.cell (p := ⟨g, k * 2, none⟩) hgs).trans (HL.out k hlt).1
            have c2 := (HBR.out.cell (p := ⟨g, k * 2 + 1, none⟩) hgs).trans (HL.out k hlt).2
            have hlt2 : (k : Int) < (F.length : Int) := by omega
            obtain ⟨_, _, _, _, s5, s6, s7, _⟩ := fund_step HFI.out hlt
            have HPR := Lib.hid (HFI.out.mem _ (List.getElem_mem hlt)).1
            have hp2 : (F[k].1 : Int) ≤ 2147483647 := by omega
            have he2 : (F[k].2 : Int) ≤ 2147483647 := by omega
            have HZ2 : Hid (z * lg a F[k].1 ^ F[k].2 = s0 * prodL a (F.take (k + 1))) := by
              show _ = _
              rw [HZ.out, prodL_take hlt, Int.mul_assoc]
            have HZT : Hid (z = 0 ∨ z = 1 ∨ z = -1) := by
              have := HST.out (F.take k)
              rw [← HZ.out] at this; exact this
            have HLG := Lib.hid (lg_cases a F[k].1)
            clear s6 s7
            generalize F[k].1 = p at *
            generalize F[k].2 = q at *
            by_cases hp : p = 2
            · subst hp
              have HSS : Hid (lg a 2 = val2 a) := rfl
              clear s5
              go_wp2_with (first
                | (go_at_call 74; ((with_reducible refine (HTW.out _).mono ?_); rintro e w' ⟨rfl, rfl⟩)))
              go_loop [5, 10] (fun O J => ∃ (j : Nat) (x : Int), J = .int .i64 j ∧ j ≤ q ∧ O = .int .i64 x ∧ Hid (x = z * lg a 2 ^ j)) (fun _ J => q - (intOf J).toNat)
              case atStart => exact ⟨0, z, rfl, by omega, rfl, by show _ = _; simp⟩
              case round =>
                obtain ⟨j, x, rfl, hj, rfl, HX⟩ := hrel
                by_cases hjl : j < q
                · have hjl2 : (j : Int) < (q : Int) := by omega
                  have HX2 : Hid (x * val2 a = z * lg a 2 ^ (j + 1)) := by
                    show _ = _
                    rw [HX.out, ← HSS.out, Int.pow_succ, Int.mul_assoc]
                  have hx3 : -1 ≤ x * val2 a ∧ x * val2 a ≤ 1 := by rw [HX2.out]; exact pow_tri HZT.out HLG.out
                  obtain ⟨hx4, hx5⟩ := hx3
                  go_wp2
                  go_round
                  case rel => exact ⟨j + 1, x * val2 a, by go_num, by omega, by first | rfl | go_num, HX2⟩
                  case measure => simp [intOf]; omega
                · have hj2 : ¬ (j : Int) < (q : Int) := by omega
                  have HX3 : Hid (x = s0 * prodL a (F.take (k + 1))) := by
                    show _ = _
                    rw [HX.out, show j = q by omega, HZ2.out]
                  go_wp2
                  go_roundw
                  case rel => exact ⟨k + 1, x, hlt, by go_num, rfl, HX3, HBR.out⟩
                  case measure => simp [intOf]; omega
            · have hp3 : (2 : Int) < (p : Int) := by omega
              obtain ⟨r, ⟨r1, r2⟩, r3, r4, hpw⟩ := power_ctr (a := a) HPR.out hp hp2
              have HPW := Lib.hid hpw
              have R3 := Lib.hid r3
              have R4 := Lib.hid r4
              clear r3 r4 hpw hp s5
              have d2 := fun N => (show (wr.drewN N).cell? ⟨g, k * 2 + 1, none⟩ = _ from c2)
              by_cases hr : r = (p : Int) - 1
              · have HSS := Lib.hid (R3.out hr)
                have hr2 : (r == (p : Int) - 1) = true := by rw [beq_iff_eq]; exact hr
                clear hr R3 R4
                go_wp2_with (first
                  | (go_at_call 74; ((with_reducible refine (HTW.out _).mono ?_); rintro e w' ⟨rfl, rfl⟩))
                  | (go_at_call 49; ((with_reducible refine (HPW.out _ (by omega) _).mono ?_); rintro e w' ⟨rfl, N, rfl⟩)))
                go_loop [5, 10] (fun O J => ∃ (j : Nat) (x : Int), J = .int .i64 j ∧ j ≤ q ∧ O = .int .i64 x ∧ Hid (x = z * lg a p ^ j)) (fun _ J => q - (intOf J).toNat)
                case atStart => exact ⟨0, z, rfl, by omega, rfl, by show _ = _; simp⟩
                case round =>
                  obtain ⟨j, x, rfl, hj, rfl, HX⟩ := hrel
                  by_cases hjl : j < q
                  · have hjl2 : (j : Int) < (q : Int) := by omega
                    have HX2 : Hid (x * (-1) = z * lg a p ^ (j + 1)) := by
                      show _ = _
                      rw [HX.out, ← HSS.out, Int.pow_succ, Int.mul_assoc]
                    have hx3 : -1 ≤ x * (-1) ∧ x * (-1) ≤ 1 := by rw [HX2.out]; exact pow_tri HZT.out HLG.out
                    obtain ⟨hx4, hx5⟩ := hx3
                    go_wp2
                    go_round
                    case rel => exact ⟨j + 1, x * (-1), by go_num, by omega, by first | rfl | go_num, HX2⟩
                    case measure => simp [intOf]; omega
                  · have hj2 : ¬ (j : Int) < (q : Int) := by omega
                    have HX3 : Hid (x = s0 * prodL a (F.take (k + 1))) := by
                      show _ = _
                      rw [HX.out, show j = q by omega, HZ2.out]
                    go_wp2
                    go_roundw
                    case rel => exact ⟨k + 1, x, hlt, by go_num, rfl, HX3, below_drewN HBR.out N⟩
                    case measure => simp [intOf]; omega
              · have HSS := Lib.hid (R4.out hr)
                have hr2 : (r == (p : Int) - 1) = false := by rw [beq_eq_false_iff_ne]; exact hr
                clear hr R3 R4
                go_wp2_with (first
                  | (go_at_call 74; ((with_reducible refine (HTW.out _).mono ?_); rintro e w' ⟨rfl, rfl⟩))
                  | (go_at_call 49; ((with_reducible refine (HPW.out _ (by omega) _).mono ?_); rintro e w' ⟨rfl, N, rfl⟩)))
                go_loop [5, 10] (fun O J => ∃ (j : Nat) (x : Int), J = .int .i64 j ∧ j ≤ q ∧ O = .int .i64 x ∧ Hid (x = z * lg a p ^ j)) (fun _ J => q - (intOf J).toNat)
                case atStart => exact ⟨0, z, rfl, by omega, rfl, by show _ = _; simp⟩
                case round =>
                  obtain ⟨j, x, rfl, hj, rfl, HX⟩ := hrel
                  by_cases hjl : j < q
                  · have hjl2 : (j : Int) < (q : Int) := by omega
                    have HX2 : Hid (x * r = z * lg a p ^ (j + 1)) := by
                      show _ = _
                      rw [HX.out, ← HSS.out, Int.pow_succ, Int.mul_assoc]
                    have hx3 : -1 ≤ x * r ∧ x * r ≤ 1 := by rw [HX2.out]; exact pow_tri HZT.out HLG.out
                    obtain ⟨hx4, hx5⟩ := hx3
                    go_wp2
                    go_round
                    case rel => exact ⟨j + 1, x * r, by go_num, by omega, by first | rfl | go_num, HX2⟩
                    case measure => simp [intOf]; omega
                  · have hj2 : ¬ (j : Int) < (q : Int) := by omega
                    have HX3 : Hid (x = s0 * prodL a (F.take (k + 1))) := by
                      show _ = _
                      rw [HX.out, show j = q by omega, HZ2.out]
                    go_wp2
                    go_roundw
                    case rel => exact ⟨k + 1, x, hlt, by go_num, rfl, HX3, below_drewN HBR.out N⟩
                    case measure => simp [intOf]; omega
          · have hkl : k = F.length := by omega
            have HE : Hid (z = s0 * prodL a F) := by
              show _ = _
              rw [HZ.out, hkl, List.take_length]
            have hn1 : ¬ (k : Int) < (F.length : Int) := by omega
            clear hkl HZ
            go_wp2
            go_ret
            exact ⟨ret_int' HE.out, HB.out.trans (HBR.out.mono hsz)⟩
  · obtain rfl : n = (m : Int) := HNN.out.2 hneg
    have HSV : Hid (s0 = 1) := HS0.out.2 (fun h => absurd h.1 (by omega))
    go_wp2_with (first | (go_at_call 28; fail))
    refine (HFA.out _).mono ?_
    rintro e w1 ⟨v, rfl, hown, hb⟩
    have HB := Lib.hid hb
    have hsz := hb.size
    clear HFA hb
    rcases own_shape hown with ⟨rfl, rfl⟩ | ⟨g, cap, rfl, hg, hgs, hcap, hcell⟩
    · clear hown
      have HE : Hid ((1 : Int) = s0 * prodL a []) := by show _ = _; rw [HSV.out]; simp [prodL]
      go_wp2
      refine wp_loop_rounds 1 ?_
      rw [rounds_succ]
      go_wp2
      go_ret
      exact ⟨ret_int' HE.out, HB.out⟩
    · have HL := Lib.hid hcell
      clear hcell hown
      go_wp2
      go_loopw [5, 7, 8, 9, 10] (fun O i _ _ _ wr => ∃ (k : Nat) (z : Int), k ≤ F.length ∧ i = .int .i64 k ∧ O = .int .i64 z ∧ Hid (z = s0 * prodL a (F.take k)) ∧ Hid (Below w1.heap.size w1 wr)) (fun _ i _ _ _ _ => F.length - (intOf i).toNat)
      case atStart => exact ⟨0, 1, Nat.zero_le _, rfl, rfl, by show _ = _; rw [HSV.out]; simp [prodL], Below.refl _ _⟩
      case round =>
        obtain ⟨k, z, hk, rfl, rfl, HZ, HBR⟩ := hrel
        have hsr := HBR.out.size
        by_cases hlt : k < F.length
        · have c1 := (HBR.out.cell (p := ⟨g, k * 2, none⟩) hgs).trans (HL.out k hlt).1
          have c2 := (HBR.out.cell (p := ⟨g, k * 2 + 1, none⟩) hgs).trans (HL.out k hlt).2
          have hlt2 : (k : Int) < (F.length : Int) := by omega
          obtain ⟨_, _, _, _, s5, s6, s7, _⟩ := fund_step HFI.out hlt
          have HPR := Lib.hid (HFI.out.mem _ (List.getElem_mem hlt)).1
          have hp2 : (F[k].1 : Int) ≤ 2147483647 := by omega
          have he2 : (F[k].2 : Int) ≤ 2147483647 := by omega
          have HZ2 : Hid (z * lg a F[k].1 ^ F[k].2 = s0 * prodL a (F.take (k + 1))) := by
            show _ = _
            rw [HZ.out, prodL_take hlt, Int.mul_assoc]
          have HZT : Hid (z = 0 ∨ z = 1 ∨ z = -1) := by
            have := HST.out (F.take k)
            rw [← HZ.out] at this; exact this
          have HLG := Lib.hid (lg_cases a F[k].1)
          clear s6 s7
          generalize F[k].1 = p at *
          generalize F[k].2 = q at *
          by_cases hp : p = 2
          · subst hp
            have HSS : Hid (lg a 2 = val2 a) := rfl
            clear s5
            go_wp2_with (first
              | (go_at_call 74; ((with_reducible refine (HTW.out _).mono ?_); rintro e w' ⟨rfl, rfl⟩)))
            go_loop [5, 10] (fun O J => ∃ (j : Nat) (x : Int), J = .int .i64 j ∧ j ≤ q ∧ O = .int .i64 x ∧ Hid (x = z * lg a 2 ^ j)) (fun _ J => q - (intOf J).toNat)
            case atStart => exact ⟨0, z, rfl, by omega, rfl, by show _ = _; simp⟩
            case round =>
              obtain ⟨j, x, rfl, hj, rfl, HX⟩ := hrel
              by_cases hjl : j < q
              · have hjl2 : (j : Int) < (q : Int) := by omega
                have HX2 : Hid (x * val2 a = z * lg a 2 ^ (j + 1)) := by
                  show _ = _
                  rw [HX.out, ← HSS.out, Int.pow_succ, Int.mul_assoc]
                have hx3 : -1 ≤ x * val2 a ∧ x * val2 a ≤ 1 := by rw [HX2.out]; exact pow_tri HZT.out HLG.out
                obtain ⟨hx4, hx5⟩ := hx3
                go_wp2
                go_round
                case rel => exact ⟨j + 1, x * val2 a, by go_num, by omega, by first | rfl | go_num, HX2⟩
                case measure => simp [intOf]; omega
              · have hj2 : ¬ (j : Int) < (q : Int) := by omega
                have HX3 : Hid (x = s0 * prodL a (F.take (k + 1))) := by
                  show _ = _
                  rw [HX.out, show j = q by omega, HZ2.out]
                go_wp2
                go_roundw
                case rel => exact ⟨k + 1, x, hlt, by go_num, rfl, HX3, HBR.out⟩
                case measure => simp [intOf]; omega
          · have hp3 : (2 : Int) < (p : Int) := by omega
            obtain ⟨r, ⟨r1, r2⟩, r3, r4, hpw⟩ := power_ctr (a := a) HPR.out hp hp2
            have HPW := Lib.hid hpw
            have R3 := Lib.hid r3
            have R4 := Lib.hid r4
            clear r3 r4 hpw hp s5
            have d2 := fun N => (show (wr.drewN N).cell? ⟨g, k * 2 + 1, none⟩ = _ from c2)
            by_cases hr : r = (p : Int) - 1
            · have HSS := Lib.hid (R3.out hr)
              have hr2 : (r == (p : Int) - 1) = true := by rw [beq_iff_eq]; exact hr
              clear hr R3 R4
              go_wp2_with (first
                | (go_at_call 74; ((with_reducible refine (HTW.out _).mono ?_); rintro e w' ⟨rfl, rfl⟩))
                | (go_at_call 49; ((with_reducible refine (HPW.out _ (by omega) _).mono ?_); rintro e w' ⟨rfl, N, rfl⟩)))
              go_loop [5, 10] (fun O J => ∃ (j : Nat) (x : Int), J = .int .i64 j ∧ j ≤ q ∧ O = .int .i64 x ∧ Hid (x = z * lg a p ^ j)) (fun _ J => q - (intOf J).toNat)
              case atStart => exact ⟨0, z, rfl, by omega, rfl, by show _ = _; simp⟩
              case round =>
                obtain ⟨j, x, rfl, hj, rfl, HX⟩ := hrel
                by_cases hjl : j < q
                · have hjl2 : (j : Int) < (q : Int) := by omega
                  have HX2 : Hid (x * (-1) = z * lg a p ^ (j + 1)) := by
                    show _ = _
                    rw [HX.out, ← HSS.out, Int.pow_succ, Int.mul_assoc]
                  have hx3 : -1 ≤ x * (-1) ∧ x * (-1) ≤ 1 := by rw [HX2.out]; exact pow_tri HZT.out HLG.out
                  obtain ⟨hx4, hx5⟩ := hx3
                  go_wp2
                  go_round
                  case rel => exact ⟨j + 1, x * (-1), by go_num, by omega, by first | rfl | go_num, HX2⟩
                  case measure => simp [intOf]; omega
                · have hj2 : ¬ (j : Int) < (q : Int) := by omega
                  have HX3 : Hid (x = s0 * prodL a (F.take (k + 1))) := by
                    show _ = _
                    rw [HX.out, show j = q by omega, HZ2.out]
                  go_wp2
                  go_roundw
                  case rel => exact ⟨k + 1, x, hlt, by go_num, rfl, HX3, below_drewN HBR.out N⟩
                  case measure => simp [intOf]; omega
            · have HSS := Lib.hid (R4.out hr)
              have hr2 : (r == (p : Int) - 1) = false := by rw [beq_eq_false_iff_ne]; exact hr
              clear hr R3 R4
              go_wp2_with (first
                | (go_at_call 74; ((with_reducible refine (HTW.out _).mono ?_); rintro e w' ⟨rfl, rfl⟩))
                | (go_at_call 49; ((with_reducible refine (HPW.out _ (by omega) _).mono ?_); rintro e w' ⟨rfl, N, rfl⟩)))
              go_loop [5, 10] (fun O J => ∃ (j : Nat) (x : Int), J = .int .i64 j ∧ j ≤ q ∧ O = .int .i64 x ∧ Hid (x = z * lg a p ^ j)) (fun _ J => q - (intOf J).toNat)
              case atStart => exact ⟨0, z, rfl, by omega, rfl, by show _ = _; simp⟩
              case round =>
                obtain ⟨j, x, rfl, hj, rfl, HX⟩ := hrel
                by_cases hjl : j < q
                · have hjl2 : (j : Int) < (q : Int) := by omega
                  have HX2 : Hid (x * r = z * lg a p ^ (j + 1)) := by
                    show _ = _
                    rw [HX.out, ← HSS.out, Int.pow_succ, Int.mul_assoc]
                  have hx3 : -1 ≤ x * r ∧ x * r ≤ 1 := by rw [HX2.out]; exact pow_tri HZT.out HLG.out
                  obtain ⟨hx4, hx5⟩ := hx3
                  go_wp2
                  go_round
                  case rel => exact ⟨j + 1, x * r, by go_num, by omega, by first | rfl | go_num, HX2⟩
                  case measure => simp [intOf]; omega
                · have hj2 : ¬ (j : Int) < (q : Int) := by omega
                  have HX3 : Hid (x = s0 * prodL a (F.take (k + 1))) := by
                    show _ = _
                    rw [HX.out, show j = q by omega, HZ2.out]
                  go_wp2
                  go_roundw
                  case rel => exact ⟨k + 1, x, hlt, by go_num, rfl, HX3, below_drewN HBR.out N⟩
                  case measure => simp [intOf]; omega
        · have hkl : k = F.length := by omega
          have HE : Hid (z = s0 * prodL a F) := by
            show _ = _
            rw [HZ.out, hkl, List.take_length]
          have hn1 : ¬ (k : Int) < (F.length : Int) := by omega
          clear hkl HZ
          go_wp2
          go_ret
          exact ⟨ret_int' HE.out, HB.out.trans (HBR.out.mono hsz)⟩
theorem kron_zero_val (a : Int) : kron a 0 = if a = 1 ∨ a = -1 then 1 else 0 := by
  unfold kron
  rw [if_pos rfl]
set_option maxHeartbeats 1600000 in
theorem refKron_zero (a : Int) (w : World) : Calls Try.prog 43 #[.int .i64 a, .int .i64 0] w fun e w' => e = .returned (.int .i64 (kron a 0)) ∧ Below w.heap.size w w' := by
  by_cases h1 : a = 1
  · subst h1
    go_enter Try.func43, Try.ntmps43
    go_wp2
    go_ret
    exact ⟨ret_int' (by rw [kron_zero_val, if_pos (.inl rfl)]), Below.refl _ _⟩
  · by_cases h2 : a = -1
    · subst h2
      go_enter Try.func43, Try.ntmps43
      go_wp2
      go_ret
      exact ⟨ret_int' (by rw [kron_zero_val, if_pos (.inr rfl)]), Below.refl _ _⟩
    · have e1 : (a == 1) = false := by rw [beq_eq_false_iff_ne]; exact h1
      have e2 : (a == -1) = false := by rw [beq_eq_false_iff_ne]; exact h2
      have HR : Hid ((0 : Int) = kron a 0) := by show _ = _; rw [kron_zero_val, if_neg (by omega)]
      clear h1 h2
      go_enter Try.func43, Try.ntmps43
      go_wp2
      go_ret
      exact ⟨ret_int' HR.out, Below.refl _ _⟩
theorem refKron_any (a n : Int) (w : World) (n1 : -2147483647 ≤ n) (n2 : n ≤ 2147483647) : Calls Try.prog 43 #[.int .i64 a, .int .i64 n] w fun e w' => e = .returned (.int .i64 (kron a n)) ∧ Below w.heap.size w w' := by
  by_cases h : n = 0
  · subst h; exact refKron_zero a w
  · rw [kron_prod h]
    exact refKron_F a n _ _ _ w h rfl (by omega) rfl rfl
end Go.Proofs.Ytoeailhcobbhjaa
