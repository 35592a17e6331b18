/- Contracts of the primitive roots. -/
import Derived.Test.YtoeailhcobbhjaaRootsMath
import Derived.Test.YtoeailhcobbhjaaOrd
namespace Go.Proofs.Ytoeailhcobbhjaa
open Go.RowKit

set_option maxHeartbeats 1600000 in
set_option maxRecDepth 1000000 in
theorem isPrim_any (a p g cap : Nat) (F : List (Nat × Nat)) (w : World) (ha : a < p) (hp1 : 2 ≤ p) (hp2 : (p : Int) ≤ 2147483647) (hq : Hid (∀ k (_ : k < F.length), 1 ≤ F[k].1 ∧ (F[k].1 : Int) ≤ 2147483647)) (hlen : (F.length : Int) ≤ 2147483647)
    (hgs : g < w.heap.size) (HL : Hid (∀ k (_ : k < F.length), w.cell? ⟨g, k * 2, none⟩ = some (.int .i64 (F[k].1 : Int)) ∧ w.cell? ⟨g, k * 2 + 1, none⟩ = some (.int .i64 (F[k].2 : Int)))) :
    Calls Try.prog 78 #[.int .i64 a, .int .i64 p, .slice (some ⟨g, 0, none⟩) F.length cap] w fun e w' => e = .returned (.bool (primB a p F)) ∧ Below w.heap.size w w' := by
  go_enter Try.func78, Try.ntmps78
  go_wp2
  go_loopw [8, 11] (fun _ I wr => ∃ k : Nat, k ≤ F.length ∧ I = .int .i64 k ∧ Hid (∀ j (_ : j < F.length), j < k → ¬ (a : Int) ^ ((p - 1) / F[j].1) % (p : Int) = 1) ∧ Hid (Below w.heap.size w wr)) (fun _ I _ => F.length - (intOf I).toNat)
  case atStart => exact ⟨0, Nat.zero_le _, rfl, fun _ _ h => absurd h (by omega), Below.refl _ _⟩
  case round =>
    obtain ⟨k, hk, rfl, HP, HBR⟩ := hrel
    have hsr := HBR.out.size
    by_cases hlt : k < F.length
    · have c1 := (HBR.out.cell (p := ⟨g, k * 2, none⟩) hgs).trans (HL.out k hlt).1
      have c2 := (HBR.out.cell (p := ⟨g, k * 2 + 1, none⟩) hgs).trans (HL.out k hlt).2
      have hlt2 : (k : Int) < (F.length : Int) := by omega
      obtain ⟨q1, q2⟩ := hq.out k hlt
      have HNEXT : Hid (¬ (a : Int) ^ ((p - 1) / F[k].1) % (p : Int) = 1 → ∀ j (_ : j < F.length), j < k + 1 → ¬ (a : Int) ^ ((p - 1) / F[j].1) % (p : Int) = 1) := fun h j hj hjk => by
        rcases Nat.lt_or_ge j k with h1 | h1
        · exact HP.out j hj h1
        · obtain rfl : j = k := by omega
          exact h
      have HSTOP : Hid ((a : Int) ^ ((p - 1) / F[k].1) % (p : Int) = 1 → primB a p F = false) := fun h => by
        rw [Bool.eq_false_iff]
        intro hh
        exact primB_true.1 hh k hlt h
      generalize F[k].1 = q at *
      generalize F[k].2 = e0 at *
      have hq1 : 1 ≤ (q : Int) := by omega
      have hpm : (((p - 1 : Nat) : Int)) = (p : Int) - 1 := by omega
      have hdv : ((p : Int) - 1) / (q : Int) = (((p - 1) / q : Nat) : Int) := by rw [← hpm, Int.natCast_ediv]
      have hle : (p - 1) / q ≤ p - 1 := Nat.div_le_self _ _
      have HPW : Hid (∀ y : Int, y = ((p : Int) - 1) / (q : Int) → ∀ W : World, Calls Try.prog 75 #[.int .i64 a, .int .i64 y, .int .i64 p] W fun e w' => e = .returned (.int .i64 ((a : Int) ^ ((p - 1) / q) % (p : Int))) ∧ W = w') := fun y hy W => by
        subst hy
        rw [hdv]
        exact powMod_any a p ((p - 1) / q) W (by omega) (by omega) (by omega) hp2 (by omega)
      have hv1 : 0 ≤ ((p : Int) - 1) / (q : Int) := Int.ediv_nonneg (by omega) (by omega)
      have hv2 : ((p : Int) - 1) / (q : Int) ≤ (p : Int) - 1 := Int.ediv_le_self _ (by omega)
      have HPW2 := Lib.hid (HPW.out _ rfl)
      clear hdv hpm hle hk HPW
      have HBA := Lib.hid (HBR.out.alloc hsr (.cells #[.int .i64 (q : Int), .int .i64 (e0 : Int)] 43))
      generalize wr = W0 at *
      have d1 := cell_two_new W0 (.int .i64 (q : Int)) (.int .i64 (e0 : Int)) 43 0 _ rfl
      rw [addr_add] at d1
      have e1 := fun Z => (show ((W0.alloc (.cells #[.int .i64 (q : Int), .int .i64 (e0 : Int)] 43)).drewN Z).cell? ⟨W0.heap.size, 0, none⟩ = _ from d1)
      by_cases ht : (a : Int) ^ ((p - 1) / q) % (p : Int) = 1
      · have he : ((a : Int) ^ ((p - 1) / q) % (p : Int) == 1) = true := by rw [beq_iff_eq]; exact ht
        have HR := Lib.hid (HSTOP.out ht)
        clear ht HSTOP HNEXT
        generalize (a : Int) ^ ((p - 1) / q) % (p : Int) = y at *
        go_wp2_with (go_at_call 75; ((with_reducible refine (HPW2.out _).mono ?_); rintro e w' ⟨rfl, rfl⟩))
        go_ret
        exact ⟨by rw [HR.out]; rfl, by repeat (first | exact HBA.out | refine below_drewN ?_ _)⟩
      · have he : ((a : Int) ^ ((p - 1) / q) % (p : Int) == 1) = false := by rw [beq_eq_false_iff_ne]; exact ht
        have HR := Lib.hid (HNEXT.out ht)
        clear ht HSTOP HNEXT
        generalize (a : Int) ^ ((p - 1) / q) % (p : Int) = y at *
        go_wp2_with (go_at_call 75; ((with_reducible refine (HPW2.out _).mono ?_); rintro e w' ⟨rfl, rfl⟩))
        go_roundw
        case rel => exact ⟨k + 1, hlt, by go_num, HR.out, by repeat (first | exact HBA.out | refine below_drewN ?_ _)⟩
        case measure => simp [intOf]; omega
    · have HR : Hid (primB a p F = true) := primB_true.2 fun j hj => HP.out j hj (by omega)
      have hn1 : ¬ (k : Int) < (F.length : Int) := by omega
      go_wp2
      go_ret
      exact ⟨by rw [HR.out]; rfl, HBR.out⟩
set_option maxHeartbeats 1600000 in
theorem isPrim_nil (a p : Nat) (w : World) :
    Calls Try.prog 78 #[.int .i64 a, .int .i64 p, .slice none 0 0] w fun e w' => e = .returned (.bool (primB a p [])) ∧ Below w.heap.size w w' := by
  go_enter Try.func78, Try.ntmps78
  go_wp2
  refine wp_loop_rounds 1 ?_
  rw [rounds_succ]
  go_wp2
  go_ret
  exact ⟨rfl, Below.refl _ _⟩
/-- What checkPrime answers. -/
theorem checkPrime_any (p e0 : Int) (w : World) (h : ((p < 2 ∨ 2147483647 < p) ∧ e0 = 2) ∨ ((2 ≤ p ∧ p ≤ 2147483647) ∧ ((Pr p.toNat ∧ e0 = 0) ∨ (¬ Pr p.toNat ∧ e0 = 8)))) :
    Calls Try.prog 77 #[.int .i64 p] w fun e w' => e = .returned (.int .i64 e0) ∧ w = w' := by
  rcases h with ⟨h, rfl⟩ | ⟨⟨h1, h2⟩, h⟩
  · rcases h with h | h
    · go_enter Try.func77, Try.ntmps77
      go_wp2
      go_ret
      exact ⟨rfl, rfl⟩
    · have h0 : ¬ p < 2 := by omega
      go_enter Try.func77, Try.ntmps77
      go_wp2
      go_ret
      exact ⟨rfl, rfl⟩
  · obtain ⟨n, rfl⟩ : ∃ n : Nat, p = (n : Int) := ⟨p.toNat, by omega⟩
    rw [Int.toNat_natCast] at h
    have HL := Lib.hid (least_any n w (by omega) h2)
    have h0 : decide ((n : Int) < 2) = false := by simp; omega
    have h3 : decide (2147483647 < (n : Int)) = false := by simp; omega
    rcases h with ⟨hp, rfl⟩ | ⟨hp, rfl⟩
    · have HP := Lib.hid hp
      go_enter Try.func77, Try.ntmps77
      go_wp2_with fail
      refine HL.out.mono ?_
      rintro e w' ⟨r, rfl, hr, rfl⟩
      have hr2 : (r != (n : Int)) = false := by
        rcases hr with ⟨rfl, _⟩ | ⟨_, h⟩
        · simp
        · exact absurd HP.out h
      clear hr
      go_wp2
      go_ret
      exact ⟨rfl, rfl⟩
    · have HP := Lib.hid hp
      go_enter Try.func77, Try.ntmps77
      go_wp2_with fail
      refine HL.out.mono ?_
      rintro e w' ⟨r, rfl, hr, rfl⟩
      have hr2 : (r != (n : Int)) = true := by
        rcases hr with ⟨_, h⟩ | ⟨h, _⟩
        · exact absurd h HP.out
        · rw [bne_iff_ne]; exact h
      clear hr
      go_wp2
      go_ret
      exact ⟨rfl, rfl⟩
end Go.Proofs.Ytoeailhcobbhjaa
