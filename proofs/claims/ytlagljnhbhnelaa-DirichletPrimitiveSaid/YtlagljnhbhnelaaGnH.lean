/- dirichlet: lcm, the closure of Quadratic, a table's value at a number. -/
import Derived.Test.YtlagljnhbhnelaaGnG
import Derived.Test.YtlagljnhbhnelaaDimM
namespace Go.Proofs.Ytlagljnhbhnelaa
open Go.RowKit
set_option linter.unusedVariables false
set_option linter.unusedSimpArgs false

set_option maxHeartbeats 1600000 in
theorem dlcm_any (a b : Nat) (w : World) (a1 : 1 ≤ a) (b1 : 1 ≤ b) (a2 : (a : Int) ≤ 1000000) (b2 : (b : Int) ≤ 1000) :
    Calls Try.prog 51 #[.int .i64 (a : Int), .int .i64 (b : Int)] w fun e w' => e = .returned (.int .i64 (Nat.lcm a b : Nat)) ∧ ∃ n, w' = w.drewN n := by
  have HG := Lib.hid (fun W => gcd_any (a : Int) (b : Int) W (by unfold Mid; omega) (by unfold Mid; omega))
  have hgp : 1 ≤ Nat.gcd a b := Nat.gcd_pos_of_pos_left b a1
  have hgl : Nat.gcd a b ≤ a := Nat.gcd_le_left b a1
  have hgi : Int.gcd (a : Int) (b : Int) = Nat.gcd a b := by simp [Int.gcd]
  have hl : Nat.lcm a b = a / Nat.gcd a b * b := by
    unfold Nat.lcm
    rw [Nat.div_mul_right_comm (Nat.gcd_dvd_left a b)]
  have hq : a / Nat.gcd a b ≤ a := Nat.div_le_self _ _
  have hml : a / Nat.gcd a b * b ≤ 1000000 * 1000 := Nat.mul_le_mul (by omega) (by omega)
  rw [hl]
  rw [hgi] at HG
  clear hl hgi
  generalize Nat.gcd a b = g at *
  have htd : Int.tdiv (a : Int) (g : Int) = ((a / g : Nat) : Int) := (Int.ofNat_tdiv _ _).symm
  have hdv : (a : Int) / (g : Int) = ((a / g : Nat) : Int) := (Int.natCast_ediv _ _).symm
  have hg0 : ((g : Int) == 0) = false := by rw [beq_eq_false_iff_ne]; omega
  have hg1 : ¬ ((g : Int) = 0) := by omega
  have hg2 : ¬ (g = 0) := by omega
  generalize a / g = q at *
  have hmu : (q : Int) * (b : Int) = ((q * b : Nat) : Int) := (Int.natCast_mul _ _).symm
  generalize q * b = r at *
  have hwq : IntKind.i64.wrap (q : Int) = (q : Int) := IntWalk.i64_in _ (by omega)
  have hwr : IntKind.i64.wrap (r : Int) = (r : Int) := IntWalk.i64_in _ (by omega)
  go_enter Try.func51, Try.ntmps51
  go_wp2_with (first
    | (go_at_call 52; ((with_reducible refine (HG.out _).mono ?_); rintro e w1 ⟨rfl, nn, rfl⟩))
    | fail)
  go_ret
  exact ⟨rfl, nn, rfl⟩
set_option maxHeartbeats 1600000 in
/-- The closure of Quadratic. -/
theorem qclo_any (D a : Int) (b : Nat) (w : World) (d1 : -120 ≤ D) (d2 : D ≤ 120) (a1 : -120 ≤ a) (a2 : a ≤ 120) (hc : w.cell? ⟨b, 0, none⟩ = some (.int .i64 D)) :
    Calls Try.prog 63 #[.int .i64 a, .pointer (some ⟨b, 0, none⟩)] w fun e w' => e = .returned (.tuple #[.int .i64 (if kron D a = 1 then 0 else 1), .int .i64 2]) ∧ w = w' := by
  have HK := Lib.hid (fun W => kronk_any D a W (by omega) (by omega) (by omega) (by omega))
  generalize kron D a = z at *
  by_cases h : z = 1
  · rw [if_pos h]
    have h1 : (z == 1) = true := by rw [beq_iff_eq]; exact h
    clear h
    go_enter Try.func63, Try.ntmps63
    go_wp2_with (first
      | (go_at_call 64; ((with_reducible refine (HK.out _).mono ?_); rintro e w1 ⟨rfl, rfl⟩))
      | fail)
    exact bodyPost_ret (results_tmp2 rfl _ _ _) rfl ⟨rfl, rfl⟩
  · rw [if_neg h]
    have h1 : (z == 1) = false := by rw [beq_eq_false_iff_ne]; exact h
    clear h
    go_enter Try.func63, Try.ntmps63
    go_wp2_with (first
      | (go_at_call 64; ((with_reducible refine (HK.out _).mono ?_); rintro e w1 ⟨rfl, rfl⟩))
      | fail)
    exact bodyPost_ret (results_tmp2 rfl _ _ _) rfl ⟨rfl, rfl⟩
theorem mod_go (a n : Int) (h : 1 ≤ n) : Int.tmod (Int.tmod a n + n) n = a % n := by
  have h1 := Int.tmod_lt_of_pos a (show 0 < n by omega)
  have h2 := Int.lt_tmod_of_pos a (show 0 < n by omega)
  by_cases h0 : 0 ≤ Int.tmod a n
  · have h3 := tmod_same a n (by omega) h0
    rw [Int.tmod_eq_emod_of_nonneg (by omega), Int.add_emod_right, h3, Int.emod_emod_of_dvd _ (Int.dvd_refl n)]
  · have h3 := tmod_add a n (by omega) (by omega)
    rw [h3, Int.tmod_eq_emod_of_nonneg (Int.emod_nonneg _ (by omega)), Int.emod_emod_of_dvd _ (Int.dvd_refl n)]
set_option maxHeartbeats 1600000 in
theorem at_any (T : List Int) (m a : Int) (A : Option Addr) (c j : Nat) (x : Int) (w : World) (hT : RdZ w w.heap.size A c T) (hn : T.length ≤ 60) (a1 : -1073741824 ≤ a) (a2 : a ≤ 1073741824) (hj : a % (T.length : Int) = (j : Int)) (hx : T[j]? = some x) :
    Calls Try.prog 58 #[.agg #[.slice A T.length c, .int .i64 m], .int .i64 a] w fun e w' => e = .returned (.tuple #[.int .i64 x, .int .i64 m]) ∧ Below w.heap.size w w' := by
  obtain ⟨hjl, hjx⟩ := List.getElem?_eq_some_iff.1 hx
  have T0 : Hid ((w.alloc (.cells #[.slice A T.length c, .int .i64 m] 76)).heap[w.heap.size]? = some (.cells #[.slice A T.length c, .int .i64 m] 76 (0, 0))) := heap_alloc_new w _
  have HB0 : Hid (Below w.heap.size w (w.alloc (.cells #[.slice A T.length c, .int .i64 m] 76))) := below1 w _
  obtain ⟨c0, c1, _⟩ := cells_two T0.out
  obtain ⟨b, o, rfl, hb, hc⟩ := hT.at_ hjl
  rw [hjx] at hc
  have hc2 := (HB0.out.cell (p := ⟨b, o + j, none⟩) hb).trans hc
  have hm1 := mod_go a (T.length : Int) (by omega)
  rw [hj] at hm1
  have h1 := Int.tmod_lt_of_pos a (show 0 < (T.length : Int) by omega)
  have h2 := Int.lt_tmod_of_pos a (show 0 < (T.length : Int) by omega)
  have hj2 : (j : Int) < (T.length : Int) := by omega
  have hn2 : (T.length : Int) ≤ 60 := by omega
  have hn0 : ((T.length : Int) == 0) = false := by rw [beq_eq_false_iff_ne]; omega
  have hn1 : ¬ ((T.length : Int) = 0) := by omega
  have hn3 : ¬ (T.length = 0) := by omega
  clear hT hx hjx hj hc hjl
  generalize T.length = N at *
  generalize hR : Int.tmod a (N : Int) = R at *
  have hwR : IntKind.i64.wrap R = R := IntWalk.i64_in _ (by omega)
  have hwS : IntKind.i64.wrap (R + (N : Int)) = R + (N : Int) := IntWalk.i64_in _ (by omega)
  have hwj : IntKind.i64.wrap (j : Int) = (j : Int) := IntWalk.i64_in _ (by omega)
  go_enter Try.func58, Try.ntmps58
  go_wp2
  go_region
  go_wp2
  exact bodyPost_ret (results_tmp2 rfl _ _ _) rfl ⟨rfl, HB0.out.drew⟩
end Go.Proofs.Ytlagljnhbhnelaa
