/- The contract of the reference's Phi: the same number. -/
import Derived.Test.YtoeailhcobbhjaaRefFac
import Derived.Test.YtoeailhcobbhjaaOrdMath
namespace Go.Proofs.Ytoeailhcobbhjaa
open Go.RowKit

theorem phi_ref {n : Nat} {F : List (Nat × Nat)} (hF : FacIs 2 n F) {k : Nat} (hk : k < F.length) : F[k].1 ∣ phiOf n (F.take k) ∧ phiOf n (F.take k) / F[k].1 * (F[k].1 - 1) = phiOf n (F.take (k + 1)) ∧ 2 ≤ F[k].1 := by
  have hq : ∀ q ∈ F, 1 ≤ q.1 ∧ 1 ≤ q.2 := fun q hq => ⟨by have := (hF.mem q hq).1.1; omega, (hF.mem q hq).2.2⟩
  have h2 := (hF.mem _ (List.getElem_mem hk)).1.1
  have hs : F = F.take k ++ F[k] :: F.drop (k + 1) := by rw [List.getElem_cons_drop, List.take_append_drop]
  have e := phiOf_tot (F.take k) (F[k].1 ^ F[k].2 * prod ((F.drop (k + 1)).map fun p => p.1 ^ p.2)) (fun q h => hq q (List.mem_of_mem_take h))
  have en : F[k].1 ^ F[k].2 * prod ((F.drop (k + 1)).map fun p => p.1 ^ p.2) * prod ((F.take k).map fun p => p.1 ^ p.2) = n := by
    conv => rhs; rw [← hF.mul, hs]
    rw [List.map_append, prod_append, List.map_cons, prod]
    grind
  rw [en] at e
  have hd : F[k].1 ∣ phiOf n (F.take k) := by
    rw [e]
    exact Nat.dvd_mul_right_of_dvd (Nat.dvd_mul_right_of_dvd (dvd_pow_self_of _ (hq _ (List.getElem_mem hk)).2) _) _
  refine ⟨hd, ?_, by omega⟩
  have e2 : phiOf n (F.take (k + 1)) = phiOf n (F.take k) - phiOf n (F.take k) / F[k].1 := foldl_take F phiStep n k hk
  rw [e2]
  obtain ⟨c, hc⟩ := hd
  rw [hc, Nat.mul_div_cancel_left _ (by omega), Nat.mul_sub, Nat.mul_one, Nat.mul_comm]

set_option maxHeartbeats 1600000 in
set_option maxRecDepth 1000000 in
theorem refPhi_F (n : Nat) (F : List (Nat × Nat)) (hFF : facs 2 n = F) (w : World) (hn : 1 ≤ n) (hn2 : (n : Int) ≤ 2147483647) :
    Calls Try.prog 36 #[.int .i64 n] w fun e w' => e = .returned (.int .i64 (phiOf n F : Int)) ∧ Below w.heap.size w w' := by
  have HFI : Hid (FacIs 2 n F) := by rw [← hFF]; exact facs_two_is hn
  have hlenI : (F.length : Int) ≤ 2147483647 := by have := HFI.out.len; omega
  have hfac := fun W => refFactor_any n W hn hn2
  rw [hFF] at hfac
  have HFA := Lib.hid hfac
  clear hFF hfac
  go_enter Try.func36, Try.ntmps36
  go_wp2_with (first | (go_at_call 28; fail))
  refine (HFA.out _).mono ?_
  rintro e w1 ⟨v, rfl, hown, hb⟩
  have HB := Lib.hid hb
  have hsz := hb.size
  clear HFA hb
  rcases own_shape hown with ⟨rfl, rfl⟩ | ⟨g, cap, rfl, hg, hgs, hcap, hcell⟩
  · clear hown
    go_wp2
    refine wp_loop_rounds 1 ?_
    rw [rounds_succ]
    go_wp2
    go_ret
    exact ⟨rfl, HB.out⟩
  · have HL := Lib.hid hcell
    clear hcell hown
    go_wp2
    go_loopw [0, 4] (fun N i wr => ∃ (k q a : Nat), k ≤ F.length ∧ i = .int .i64 k ∧ N = .int .i64 a ∧ 1 ≤ a ∧ (a : Int) ≤ 2147483647 ∧ Hid (a = phiOf n (F.take k)) ∧ wr = w1.drewN q) (fun _ i _ => F.length - (intOf i).toNat)
    case atStart => exact ⟨0, 0, n, Nat.zero_le _, rfl, rfl, hn, hn2, rfl, rfl⟩
    case round =>
      obtain ⟨k, q, a, hk, rfl, rfl, ha0, ha, HA, rfl⟩ := hrel
      by_cases hlt : k < F.length
      · have c1 := fun N => (show (w1.drewN N).cell? ⟨g, k * 2, none⟩ = _ from (HL.out k hlt).1)
        have hlt2 : (k : Int) < (F.length : Int) := by omega
        obtain ⟨d1, d2, d3⟩ := phi_ref HFI.out hlt
        rw [← HA.out] at d1 d2
        have HA2 := Lib.hid d2
        have HD1 := Lib.hid d1
        clear d1 d2
        generalize F[k].1 = p at *
        have hq1 : 0 ≤ (a : Int) / (p : Int) := Int.ediv_nonneg (by omega) (by omega)
        have hq2 : ((a / p : Nat) : Int) = (a : Int) / (p : Int) := Int.natCast_ediv _ _
        have hle : (a / p) * (p - 1) ≤ a := Nat.le_trans (Nat.mul_le_mul_left _ (Nat.sub_le _ _)) (Nat.div_mul_le_self _ _)
        have hv : (a : Int) / (p : Int) * ((p : Int) - 1) = (((a / p) * (p - 1) : Nat) : Int) := by
          rw [Int.natCast_mul, Int.natCast_sub (by omega)]; simp
        have hv1 : 0 ≤ (a : Int) / (p : Int) * ((p : Int) - 1) := by rw [hv]; omega
        have hp3 : (p : Int) ≤ 2147483647 := by have := Nat.le_of_dvd (by omega) HD1.out; omega
        have hv2 : (a : Int) / (p : Int) * ((p : Int) - 1) ≤ 2147483647 := by rw [hv]; omega
        have hq3 : (a : Int) / (p : Int) ≤ a := by rw [← hq2]; have := Nat.div_le_self a p; omega
        have HV := Lib.hid hv
        have hv3 : (((a / p) * (p - 1) : Nat) : Int) ≤ 2147483647 := by omega
        have hv4 : 1 ≤ (a / p) * (p - 1) := by
          have h1 : 1 ≤ a / p := (Nat.one_le_div_iff (by omega)).2 (Nat.le_of_dvd (by omega) HD1.out)
          exact Nat.le_trans (show 1 ≤ 1 * 1 by omega) (Nat.mul_le_mul h1 (by omega))
        have hp1 : 2 ≤ (p : Int) := by omega
        clear hv hle hq2
        go_wp2
        go_quiet (fail)
        go_wp2
        go_roundw
        case rel => exact ⟨k + 1, _, a / p * (p - 1), hlt, by go_num, congrArg _ HV.out, hv4, hv3, HA2.out, rfl⟩
        case measure => simp [intOf]; omega
      · have hkl : k = F.length := by omega
        subst hkl
        have HA2 : Hid (a = phiOf n F) := by
          have := HA.out
          rw [List.take_length] at this
          exact this
        clear HA
        obtain rfl : a = phiOf n F := HA2.out
        clear HA2
        go_wp2
        go_ret
        exact ⟨rfl, below_drewN HB.out _⟩
end Go.Proofs.Ytoeailhcobbhjaa
