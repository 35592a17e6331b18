/- The reference's check of a space: Mod, free, Fundamental, Check, Sturm. The reference's Kronecker symbol, Lambda and beta. dirichlet.Quadratic where it refuses; the reference's Quadratic. The reference's Quadratic. DirichletQuadratic: the quadratic character is that of the reference; its conductor, order and parity. Products and conjugates of characters: Mul and Conjugate of the project and of the reference. Mul and Conjugate where they refuse; DirichletProducts. DirichletProducts: products and conjugates are those of the reference, or the errors are. The conductor by the reference's search (plain mathematics). Layer 28: the reference's Copy, one, Even, Order, Conductor; what is no character. Layer 28: Order, Conductor, Even of what is no character; the reference's Even, Order, Conductor. The reference's Conductor. -/
import Derived.Test.YtlagljnhbhnelaaDnB
import Derived.Test.YtlagljnhbhnelaaRgX
import Derived.Test.YtlagljnhbhnelaaTabXa
import Derived.Test.YtlagljnhbhnelaaOrdX
import Derived.Test.YtlagljnhbhnelaaChkX
import Derived.Test.YtlagljnhbhnelaaVrX
namespace Go.Proofs.Ytlagljnhbhnelaa
open Go.RowKit
set_option linter.unusedVariables false
set_option linter.unusedSimpArgs false

set_option maxHeartbeats 800000 in
theorem modD_any (a q : Int) (w : World) (a1 : -1000001 ≤ a) (a2 : a ≤ 1000001) (q1 : 1 ≤ q) (q2 : q ≤ 1000) : Calls Try.prog 36 #[.int .i64 a, .int .i64 q] w fun e w' => e = .returned (.int .i64 (a % q)) ∧ w' = w := by
  have hm := tmod_add a q (by omega)
  have hs := tmod_same a q (by omega)
  have b1 : (a.tmod q).natAbs < q.natAbs := by rw [Int.natAbs_tmod]; exact Nat.mod_lt _ (by omega)
  by_cases h : a.tmod q < 0
  · have e := hm h
    clear hm hs
    go_enter Try.func36, Try.ntmps36
    go_wp2
    go_ret
    exact ⟨rfl, rfl⟩
  · have e := hs (by omega)
    clear hm hs
    rw [← e]
    go_enter Try.func36, Try.ntmps36
    go_wp2
    go_ret
    exact ⟨rfl, rfl⟩
theorem frB_no {n t : Nat} (ht : t < 10) (h1 : (t + 2) * (t + 2) ≤ n) (h2 : n % ((t + 2) * (t + 2)) = 0) : frB n = false := by
  unfold frB
  rw [Bool.eq_false_iff]
  intro h
  have := List.all_eq_true.1 h t (List.mem_range.2 ht)
  simp only [Bool.or_eq_true, decide_eq_true_eq] at this
  omega
theorem frB_yes {n t : Nat} (hn : n < (t + 2) * (t + 2)) (h : ∀ j, j < t → n % ((j + 2) * (j + 2)) ≠ 0) : frB n = true := by
  unfold frB
  refine List.all_eq_true.2 fun j hj => ?_
  simp only [Bool.or_eq_true, decide_eq_true_eq]
  by_cases hjt : j < t
  · exact .inr (h j hjt)
  · left
    have : (t + 2) * (t + 2) ≤ (j + 2) * (j + 2) := Nat.mul_le_mul (by omega) (by omega)
    omega
set_option maxHeartbeats 1600000 in
theorem free_any (d : Int) (w : World) (d1 : -120 ≤ d) (d2 : d ≤ 120) :
    Calls Try.prog 76 #[.int .i64 d] w fun e w' => e = .returned (.bool (frB d.natAbs)) ∧ w = w' := by
  obtain ⟨n, hn⟩ : ∃ n, n = d.natAbs := ⟨_, rfl⟩
  rw [← hn]
  have hmax : max d (-d) = (n : Int) := by omega
  have hn2 : (n : Int) ≤ 120 := by omega
  have Hno := Lib.hid (fun (t : Nat) (ht : t < 10) (h1 : (t + 2) * (t + 2) ≤ n) (h2 : n % ((t + 2) * (t + 2)) = 0) => frB_no ht h1 h2)
  have Hyes := Lib.hid (fun (t : Nat) (h1 : n < (t + 2) * (t + 2)) (h2 : ∀ j, j < t → n % ((j + 2) * (j + 2)) ≠ 0) => frB_yes h1 h2)
  clear hn
  go_enter Try.func76, Try.ntmps76
  go_wp2
  go_loop [3] (fun P => ∃ t : Nat, P = .int .i64 ((t + 2 : Nat) : Int) ∧ t ≤ 10 ∧ Hid (∀ j, j < t → n % ((j + 2) * (j + 2)) ≠ 0)) (fun P => 20 - (intOf P).toNat)
  case atStart => exact ⟨0, rfl, by omega, fun j hj => absurd hj (by omega)⟩
  case round =>
    obtain ⟨t, rfl, ht, HJ⟩ := hrel
    have hno := Hno.out t
    have hyes := Hyes.out t
    obtain ⟨p, hp⟩ : ∃ p, p = t + 2 := ⟨_, rfl⟩
    have Hp := Lib.hid hp
    rw [← hp] at hno hyes ⊢
    have hp1 : 2 ≤ (p : Int) := by omega
    have hp2 : (p : Int) ≤ 12 := by omega
    have hsq : (p : Int) * (p : Int) = ((p * p : Nat) : Int) := (Int.natCast_mul p p).symm
    have hpp : p * p ≤ 144 := Nat.mul_le_mul (show p ≤ 12 by omega) (show p ≤ 12 by omega)
    have hpp0 : 4 ≤ p * p := Nat.mul_le_mul (show 2 ≤ p by omega) (show 2 ≤ p by omega)
    have hpb : t = 10 → 144 ≤ p * p := fun h => Nat.mul_le_mul (show 12 ≤ p by omega) (show 12 ≤ p by omega)
    clear hp
    obtain ⟨z, hz⟩ : ∃ z, z = p * p := ⟨_, rfl⟩
    have Hz := Lib.hid hz
    rw [← hz] at hno hyes hsq hpp hpp0 hpb
    clear hz
    have hz0 : ((z : Int) == 0) = false := by rw [beq_eq_false_iff_ne]; omega
    have hz1 : 1 ≤ (z : Int) := by omega
    have hmod : (n : Int) % (z : Int) = ((n % z : Nat) : Int) := (Int.natCast_emod n z).symm
    by_cases hle : z ≤ n
    · have hle2 : (z : Int) ≤ (n : Int) := by omega
      have ht10 : t < 10 := by rcases Nat.lt_or_ge t 10 with h | h; (exact h); have := hpb (by omega); omega
      clear hpb
      by_cases e : n % z = 0
      · have HE := Lib.hid (hno ht10 hle e)
        rw [e] at hmod
        clear hno hyes hle e
        go_wp2
        go_ret
        exact ⟨by rw [HE.out]; rfl, rfl⟩
      · have hne : (((n : Int) % (z : Int)) == 0) = false := by rw [hmod, beq_eq_false_iff_ne]; omega
        have He := Lib.hid e
        clear hno hyes hle e hmod
        go_wp2
        go_round
        case rel => exact ⟨t + 1, by have := Hp.out; go_num, by omega, fun j hj => by
          by_cases h : j < t
          · exact HJ.out j h
          · obtain rfl : j = t := by omega
            have h1 := He.out; have hq := Hp.out; have hz' := Hz.out; rw [hz', hq] at h1; exact h1⟩
        case measure => have := Hp.out; simp [intOf]; omega
    · have hle2 : ¬ (z : Int) ≤ (n : Int) := by omega
      have HE := Lib.hid (hyes (by omega) HJ.out)
      clear hno hyes hpb
      go_wp2
      go_ret
      exact ⟨by rw [HE.out]; rfl, rfl⟩
set_option maxHeartbeats 1600000 in
theorem rfun_any (d : Int) (w : World) (d1 : -120 ≤ d) (d2 : d ≤ 120) :
    Calls Try.prog 65 #[.int .i64 d] w fun e w' => e = .returned (.bool (fdR d)) ∧ w = w' := by
  by_cases h0 : d = 0
  · subst h0
    rw [show fdR 0 = false from rfl]
    go_enter Try.func65, Try.ntmps65
    go_wp2
    go_ret
    exact ⟨rfl, rfl⟩
  by_cases h1 : d = 1
  · subst h1
    rw [show fdR 1 = false from rfl]
    go_enter Try.func65, Try.ntmps65
    go_wp2
    go_ret
    exact ⟨rfl, rfl⟩
  have e0 : (d == 0) = false := by rw [beq_eq_false_iff_ne]; exact h0
  have e1 : (d == 1) = false := by rw [beq_eq_false_iff_ne]; exact h1
  have HM := Lib.hid (fun W => modD_any d 4 W (by omega) (by omega) (by omega) (by omega))
  have HF := Lib.hid (fun W => free_any d W d1 d2)
  by_cases h4 : d % 4 = 1
  · have ht0 : (d.tmod 4 == 0) = false := by rw [beq_eq_false_iff_ne]; intro h; have := Int.emod_eq_zero_of_dvd (Int.dvd_of_tmod_eq_zero h); omega
    have ht1 : (d % 4 == 0) = false := by rw [beq_eq_false_iff_ne]; omega
    rw [h4] at HM
    by_cases hf : frB d.natAbs = true
    · have HE : Hid (fdR d = true) := by show _ = _; unfold fdR; rw [decide_eq_true h0, decide_eq_true h1, decide_eq_true h4, hf]; rfl
      rw [HE.out]
      rw [hf] at HF
      clear h0 h1 h4 hf HE
      go_enter Try.func65, Try.ntmps65
      go_wp2_with (first
      | (go_at_call 36; first
         | ((with_reducible refine (HM.out _).mono ?_); rintro e w1 ⟨rfl, rfl⟩)
         | ((with_reducible refine (HQ.out _).mono ?_); rintro e w1 ⟨rfl, rfl⟩)
         | fail)
      | (go_at_call 76; first
         | ((with_reducible refine (HF.out _).mono ?_); rintro e w1 ⟨rfl, rfl⟩)
         | ((with_reducible refine (HG.out _).mono ?_); rintro e w1 ⟨rfl, rfl⟩)
         | fail)
      | fail)
      go_ret
      exact ⟨rfl, rfl⟩
    · have hf' : frB d.natAbs = false := by simpa using hf
      have HE : Hid (fdR d = false) := by show _ = _; unfold fdR; rw [hf', show decide (d % 4 = 0) = false from decide_eq_false (by omega)]; simp
      rw [HE.out]
      rw [hf'] at HF
      clear h0 h1 h4 hf hf' HE
      go_enter Try.func65, Try.ntmps65
      go_wp2_with (first
      | (go_at_call 36; first
         | ((with_reducible refine (HM.out _).mono ?_); rintro e w1 ⟨rfl, rfl⟩)
         | ((with_reducible refine (HQ.out _).mono ?_); rintro e w1 ⟨rfl, rfl⟩)
         | fail)
      | (go_at_call 76; first
         | ((with_reducible refine (HF.out _).mono ?_); rintro e w1 ⟨rfl, rfl⟩)
         | ((with_reducible refine (HG.out _).mono ?_); rintro e w1 ⟨rfl, rfl⟩)
         | fail)
      | fail)
      go_ret
      exact ⟨rfl, rfl⟩
  · have hm1 : (d % 4 == 1) = false := by rw [beq_eq_false_iff_ne]; exact h4
    by_cases h40 : d % 4 = 0
    · have ht0 : (d.tmod 4 == 0) = true := by rw [beq_iff_eq]; exact Int.tmod_eq_zero_of_dvd (Int.dvd_of_emod_eq_zero h40)
      have ht1 : (d % 4 == 0) = true := by rw [beq_iff_eq]; exact h40
      have hq : d.tdiv 4 = d / 4 := Int.tdiv_eq_ediv_of_dvd (Int.dvd_of_emod_eq_zero h40)
      have hq1 : -30 ≤ d / 4 ∧ d / 4 ≤ 30 := by omega
      have HQ := Lib.hid (fun W => modD_any (d / 4) 4 W (by omega) (by omega) (by omega) (by omega))
      have HG := Lib.hid (fun W => free_any (d / 4) W (by omega) (by omega))
      obtain ⟨hq2, hq3⟩ := hq1
      by_cases h2 : 2 ≤ d / 4 % 4
      · have h3 : d / 4 % 4 ≤ 3 := by omega
        have HE : Hid (fdR d = frB (d / 4).natAbs) := by show _ = _; unfold fdR; rw [decide_eq_true h0, decide_eq_true h1, decide_eq_false h4, decide_eq_true h40, decide_eq_true h2]; simp
        rw [HE.out]
        clear h0 h1 h4 h40 HE
        generalize frB (d / 4).natAbs = B at *
        generalize d / 4 % 4 = R at *
        obtain ⟨q, hqq⟩ : ∃ q, q = d / 4 := ⟨_, rfl⟩
        rw [← hqq] at hq hq2 hq3 HQ HG
        have hqd : d / 4 = q := hqq.symm
        clear hqq
        go_enter Try.func65, Try.ntmps65
        go_wp2_with (first
      | (go_at_call 36; first
         | ((with_reducible refine (HM.out _).mono ?_); rintro e w1 ⟨rfl, rfl⟩)
         | ((with_reducible refine (HQ.out _).mono ?_); rintro e w1 ⟨rfl, rfl⟩)
         | fail)
      | (go_at_call 76; first
         | ((with_reducible refine (HF.out _).mono ?_); rintro e w1 ⟨rfl, rfl⟩)
         | ((with_reducible refine (HG.out _).mono ?_); rintro e w1 ⟨rfl, rfl⟩)
         | fail)
      | fail)
        go_ret
        exact ⟨rfl, rfl⟩
      · have h3 : 0 ≤ d / 4 % 4 := by omega
        have HE : Hid (fdR d = false) := by show _ = _; unfold fdR; rw [decide_eq_false h4, decide_eq_false h2]; simp
        rw [HE.out]
        clear h0 h1 h4 h40 HE
        generalize d / 4 % 4 = R at *
        obtain ⟨q, hqq⟩ : ∃ q, q = d / 4 := ⟨_, rfl⟩
        rw [← hqq] at hq hq2 hq3 HQ HG
        have hqd : d / 4 = q := hqq.symm
        clear hqq
        go_enter Try.func65, Try.ntmps65
        go_wp2_with (first
      | (go_at_call 36; first
         | ((with_reducible refine (HM.out _).mono ?_); rintro e w1 ⟨rfl, rfl⟩)
         | ((with_reducible refine (HQ.out _).mono ?_); rintro e w1 ⟨rfl, rfl⟩)
         | fail)
      | (go_at_call 76; first
         | ((with_reducible refine (HF.out _).mono ?_); rintro e w1 ⟨rfl, rfl⟩)
         | ((with_reducible refine (HG.out _).mono ?_); rintro e w1 ⟨rfl, rfl⟩)
         | fail)
      | fail)
        go_ret
        exact ⟨rfl, rfl⟩
    · have ht0 : (d.tmod 4 == 0) = false := by rw [beq_eq_false_iff_ne]; intro h; have := Int.emod_eq_zero_of_dvd (Int.dvd_of_tmod_eq_zero h); omega
      have ht1 : (d % 4 == 0) = false := by rw [beq_eq_false_iff_ne]; exact h40
      have HE : Hid (fdR d = false) := by show _ = _; unfold fdR; rw [decide_eq_false h4, decide_eq_false h40]; simp
      rw [HE.out]
      clear h0 h1 h4 h40 HE
      go_enter Try.func65, Try.ntmps65
      go_wp2_with (first
      | (go_at_call 36; first
         | ((with_reducible refine (HM.out _).mono ?_); rintro e w1 ⟨rfl, rfl⟩)
         | ((with_reducible refine (HQ.out _).mono ?_); rintro e w1 ⟨rfl, rfl⟩)
         | fail)
      | (go_at_call 76; first
         | ((with_reducible refine (HF.out _).mono ?_); rintro e w1 ⟨rfl, rfl⟩)
         | ((with_reducible refine (HG.out _).mono ?_); rintro e w1 ⟨rfl, rfl⟩)
         | fail)
      | fail)
      go_ret
      exact ⟨rfl, rfl⟩
end Go.Proofs.Ytlagljnhbhnelaa
namespace Go.Proofs.Ytlagljnhbhnelaa
open Go.RowKit
set_option linter.unusedVariables false
set_option linter.unusedSimpArgs false

theorem syV_cases (d : Int) (p : Nat) : -1 ≤ syV d p ∧ syV d p ≤ 1 := by
  unfold syV
  split
  · omega
  · split
    · split <;> omega
    · split <;> omega
theorem sy_hit {d : Int} {p t : Nat} (h0 : d % (p : Int) ≠ 0) (h2 : p ≠ 2) (ht : t < p - 1) (h : (((t + 1 : Nat) : Int) * ((t + 1 : Nat) : Int) - d) % (p : Int) = 0) : syV d p = 1 := by
  unfold syV
  rw [if_neg h0, if_neg h2, if_pos]
  exact List.any_eq_true.2 ⟨t, List.mem_range.2 ht, decide_eq_true h⟩
theorem sy_miss {d : Int} {p : Nat} (h0 : d % (p : Int) ≠ 0) (h2 : p ≠ 2) (h : ∀ t, t < p - 1 → (((t + 1 : Nat) : Int) * ((t + 1 : Nat) : Int) - d) % (p : Int) ≠ 0) : syV d p = -1 := by
  unfold syV
  rw [if_neg h0, if_neg h2, if_neg]
  intro he
  obtain ⟨t, ht, e⟩ := List.any_eq_true.1 he
  exact h t (List.mem_range.1 ht) (of_decide_eq_true e)
set_option maxHeartbeats 3200000 in
set_option maxRecDepth 1000000 in
theorem rsy_any (d : Int) (p : Nat) (w : World) (d1 : -120 ≤ d) (d2 : d ≤ 120) (p1 : 2 ≤ p) (p2 : (p : Int) ≤ 120) :
    Calls Try.prog 77 #[.int .i64 d, .int .i64 (p : Int)] w fun e w' => e = .returned (.int .i64 (syV d p)) ∧ w = w' := by
  have hp0 : ((p : Int) == 0) = false := by rw [beq_eq_false_iff_ne]; omega
  have hpi : 2 ≤ (p : Int) := by omega
  have htb : (d.tmod (p : Int)).natAbs ≤ 120 := by rw [Int.natAbs_tmod]; have := Nat.mod_le d.natAbs (p : Int).natAbs; omega
  by_cases h0 : d % (p : Int) = 0
  · have HE : Hid ((0 : Int) = syV d p) := by show _ = _; unfold syV; rw [if_pos h0]
    have e1 : (d % (p : Int) == 0) = true := by rw [beq_iff_eq]; exact h0
    have e2 : (d.tmod (p : Int) == 0) = true := by rw [beq_iff_eq]; exact Int.tmod_eq_zero_of_dvd (Int.dvd_of_emod_eq_zero h0)
    clear h0
    go_enter Try.func77, Try.ntmps77
    go_wp2
    go_ret
    exact ⟨ret_int' HE.out, rfl⟩
  have e1 : (d % (p : Int) == 0) = false := by rw [beq_eq_false_iff_ne]; exact h0
  have e2 : (d.tmod (p : Int) == 0) = false := by rw [beq_eq_false_iff_ne]; intro h; exact h0 (Int.emod_eq_zero_of_dvd (Int.dvd_of_tmod_eq_zero h))
  by_cases hp2 : p = 2
  · subst hp2
    have e2' : (d.tmod 2 == 0) = false := e2
    have e1' : (d % 2 == 0) = false := e1
    clear e1 e2 hp0 hpi htb
    have HM := Lib.hid (fun V => modD_any d 8 V (by omega) (by omega) (by omega) (by omega))
    have hr1 : 0 ≤ d % 8 := by omega
    have hr2 : d % 8 ≤ 7 := by omega
    by_cases h1 : d % 8 = 1
    · have HE : Hid ((1 : Int) = syV d 2) := by show _ = _; unfold syV; rw [if_neg h0, if_pos rfl, if_pos (.inl h1)]
      rw [h1] at HM
      clear h0 h1
      go_enter Try.func77, Try.ntmps77
      go_wp2_with (first
        | (go_at_call 36; ((with_reducible refine (HM.out _).mono ?_); rintro e w1 ⟨rfl, rfl⟩))
        | fail)
      go_ret
      exact ⟨ret_int' HE.out, rfl⟩
    · have f1 : (d % 8 == 1) = false := by rw [beq_eq_false_iff_ne]; exact h1
      by_cases h7 : d % 8 = 7
      · have HE : Hid ((1 : Int) = syV d 2) := by show _ = _; unfold syV; rw [if_neg h0, if_pos rfl, if_pos (.inr h7)]
        rw [h7] at HM
        clear h0 h1 h7 f1
        go_enter Try.func77, Try.ntmps77
        go_wp2_with (first
          | (go_at_call 36; ((with_reducible refine (HM.out _).mono ?_); rintro e w1 ⟨rfl, rfl⟩))
          | fail)
        go_ret
        exact ⟨ret_int' HE.out, rfl⟩
      · have f7 : (d % 8 == 7) = false := by rw [beq_eq_false_iff_ne]; exact h7
        have HE : Hid ((-1 : Int) = syV d 2) := by show _ = _; unfold syV; rw [if_neg h0, if_pos rfl, if_neg (by omega)]
        clear h0 h1 h7
        generalize d % 8 = r at *
        go_enter Try.func77, Try.ntmps77
        go_wp2_with (first
          | (go_at_call 36; ((with_reducible refine (HM.out _).mono ?_); rintro e w1 ⟨rfl, rfl⟩))
          | fail)
        go_ret
        exact ⟨ret_int' HE.out, rfl⟩
  · have f2 : ((p : Int) == 2) = false := by rw [beq_eq_false_iff_ne]; omega
    have HH := Lib.hid (fun (t : Nat) (ht : t < p - 1) (h : (((t + 1 : Nat) : Int) * ((t + 1 : Nat) : Int) - d) % (p : Int) = 0) => sy_hit h0 hp2 ht h)
    have HN := Lib.hid (fun (h : ∀ t, t < p - 1 → (((t + 1 : Nat) : Int) * ((t + 1 : Nat) : Int) - d) % (p : Int) ≠ 0) => sy_miss h0 hp2 h)
    have HM := Lib.hid (fun (a : Int) (V : World) (a1 : -1000001 ≤ a) (a2 : a ≤ 1000001) => modD_any a (p : Int) V a1 a2 (by omega) (by omega))
    clear h0 hp2
    go_enter Try.func77, Try.ntmps77
    go_wp2
    go_loop [6] (fun X => ∃ t : Nat, X = .int .i64 ((t + 1 : Nat) : Int) ∧ t + 1 ≤ p ∧ Hid (∀ j, j < t → (((j + 1 : Nat) : Int) * ((j + 1 : Nat) : Int) - d) % (p : Int) ≠ 0)) (fun X => p - (intOf X).toNat)
    case atStart => exact ⟨0, rfl, by omega, fun j hj => absurd hj (by omega)⟩
    case round =>
      obtain ⟨t, rfl, ht, HJ⟩ := hrel
      have hh := HH.out t
      obtain ⟨x, hx⟩ : ∃ x, x = t + 1 := ⟨_, rfl⟩
      have Hx := Lib.hid hx
      rw [← hx] at hh ht ⊢
      have hx1 : 1 ≤ (x : Int) := by omega
      have hx2 : (x : Int) ≤ 120 := by omega
      have hsq : (x : Int) * (x : Int) = ((x * x : Nat) : Int) := (Int.natCast_mul x x).symm
      have hb : x * x ≤ 14400 := Nat.mul_le_mul (show x ≤ 120 by omega) (show x ≤ 120 by omega)
      rw [hsq] at hh
      by_cases hlt : x < p
      · have hlti : (x : Int) < (p : Int) := by omega
        have HMx := Lib.hid (fun V => HM.out (((x * x : Nat) : Int) - d) V (by omega) (by omega))
        by_cases e : (((x * x : Nat) : Int) - d) % (p : Int) = 0
        · have HE : Hid ((1 : Int) = syV d p) := (hh (by omega) e).symm
          rw [e] at HMx
          clear hh e hx
          generalize x * x = z at *
          go_wp2_with (first
            | (go_at_call 36; ((with_reducible refine (HMx.out _).mono ?_); rintro e w1 ⟨rfl, rfl⟩))
            | fail)
          go_ret
          exact ⟨ret_int' HE.out, rfl⟩
        · have He : Hid ((((t + 1 : Nat) : Int) * ((t + 1 : Nat) : Int) - d) % (p : Int) ≠ 0) := by
            show _ ≠ _
            rw [← hx, hsq]; exact e
          have hne : ((((x * x : Nat) : Int) - d) % (p : Int) == 0) = false := by rw [beq_eq_false_iff_ne]; exact e
          clear hh e hx
          generalize x * x = z at *
          generalize ((z : Int) - d) % (p : Int) = r at *
          go_wp2_with (first
            | (go_at_call 36; ((with_reducible refine (HMx.out _).mono ?_); rintro e w1 ⟨rfl, rfl⟩))
            | fail)
          go_round
          case rel => exact ⟨x, by go_num, by omega, fun j hj => by
            by_cases h : j < t
            · exact HJ.out j h
            · obtain rfl : j = t := by have := Hx.out; omega
              exact He.out⟩
          case measure => have := Hx.out; simp [intOf]; omega
      · have hlti : ¬ (x : Int) < (p : Int) := by omega
        have HE : Hid ((-1 : Int) = syV d p) := (HN.out (fun j hj => HJ.out j (by omega))).symm
        clear hh hx
        go_wp2
        go_ret
        exact ⟨ret_int' HE.out, rfl⟩
/-- The reference's symbol: one step. -/
theorem rkL_one (d : Int) : ∀ f p a, a ≤ 1 → rkL d f p a = 1
  | 0, _, _, _ => rfl
  | f + 1, p, a, h => by unfold rkL; rw [if_pos h]
theorem rkL_hit (d : Int) {f p a : Nat} (h1 : 1 < a) (h : a % p = 0) : rkL d (f + 1) p a = syV d p * rkL d f p (a / p) := by
  show (if a ≤ 1 then 1 else if a % p = 0 then syV d p * rkL d f p (a / p) else rkL d f (p + 1) a) = _
  rw [if_neg (by omega), if_pos h]
theorem rkL_miss (d : Int) {f p a : Nat} (h1 : 1 < a) (h : a % p ≠ 0) : rkL d (f + 1) p a = rkL d f (p + 1) a := by
  show (if a ≤ 1 then 1 else if a % p = 0 then syV d p * rkL d f p (a / p) else rkL d f (p + 1) a) = _
  rw [if_neg (by omega), if_neg h]
theorem tri_mul {x y : Int} (hx : -1 ≤ x ∧ x ≤ 1) (hy : -1 ≤ y ∧ y ≤ 1) : -1 ≤ x * y ∧ x * y ≤ 1 := by
  have : x = -1 ∨ x = 0 ∨ x = 1 := by omega
  rcases this with h | h | h <;> rw [h] <;> omega
theorem clear_le {a p : Nat} (h : Clear a p) (h1 : 1 < a) : p ≤ a := by
  rcases Nat.lt_or_ge a p with h2 | h2
  · exact absurd (Nat.mod_self a) (h a (by omega) h2)
  · exact h2
theorem clear_next {a p : Nat} (h : Clear a p) (h1 : a % p ≠ 0) : Clear a (p + 1) := fun e he hep => by
  rcases Nat.lt_or_ge e p with h2 | h2
  · exact h e he h2
  · obtain rfl : e = p := by omega
    exact h1
theorem clear_div {a p : Nat} (h : Clear a p) (h0 : a % p = 0) (hp : 2 ≤ p) : Clear (a / p) p := fun e he hep => by
  intro h1
  refine h e he hep ?_
  have h2 : e ∣ a / p := Nat.dvd_of_mod_eq_zero h1
  have h3 : a / p ∣ a := Nat.div_dvd_of_dvd (Nat.dvd_of_mod_eq_zero h0)
  exact Nat.mod_eq_zero_of_dvd (Nat.dvd_trans h2 h3)
set_option maxHeartbeats 3200000 in
set_option maxRecDepth 1000000 in
theorem rkron_any (d : Int) (a0 : Nat) (w : World) (d1 : -120 ≤ d) (d2 : d ≤ 120) (a1 : 1 ≤ a0) (a2 : (a0 : Int) ≤ 120) :
    Calls Try.prog 66 #[.int .i64 d, .int .i64 (a0 : Int)] w fun e w' => e = .returned (.int .i64 (rkV d a0)) ∧ w = w' := by
  have HSy := Lib.hid (fun (p : Nat) (V : World) (p1 : 2 ≤ p) (p2 : (p : Int) ≤ 120) => rsy_any d p V d1 d2 p1 p2)
  have HSc := Lib.hid (fun p => syV_cases d p)
  have HV : Hid (rkV d a0 = rkL d 300 2 a0) := rfl
  go_enter Try.func66, Try.ntmps66
  go_wp2
  go_loop [1, 5, 6] (fun A X P => ∃ (f p a : Nat) (x : Int), A = .int .i64 (a : Int) ∧ X = .int .i64 x ∧ P = .int .i64 (p : Int) ∧ 1 ≤ a ∧ a ≤ 120 ∧ 2 ≤ p ∧ p ≤ 121 ∧ (-1 ≤ x ∧ x ≤ 1) ∧ Hid (a + 121 - p ≤ f) ∧ Hid (Clear a p) ∧ Hid (x * rkL d f p a = rkV d a0)) (fun A _ P => (intOf A).toNat + 121 - (intOf P).toNat)
  case atStart => exact ⟨300, 2, a0, 1, rfl, rfl, rfl, a1, by omega, by omega, by omega, by omega, by show _ ≤ _; omega, fun e h1 h2 => absurd h1 (by omega), by show _ = _; rw [Int.one_mul, HV.out]⟩
  case round =>
    obtain ⟨f, p, a, x, rfl, rfl, rfl, ha1, ha2, hp1, hp2, ⟨x1, x2⟩, HF, HC, HX⟩ := hrel
    by_cases hgt : 1 < a
    · have hgti : 1 < (a : Int) := by omega
      have hpa := clear_le HC.out hgt
      have hp3 : (p : Int) ≤ 120 := by omega
      have HSp := Lib.hid (fun V => HSy.out p V hp1 hp3)
      obtain ⟨sc1, sc2⟩ := HSc.out p
      have hpi : 2 ≤ (p : Int) := by omega
      have hp0 : ((p : Int) == 0) = false := by rw [beq_eq_false_iff_ne]; omega
      obtain ⟨s0, hs0⟩ : ∃ s, s = syV d p := ⟨_, rfl⟩
      rw [← hs0] at HSp sc1 sc2
      have HS0 := Lib.hid hs0
      clear hs0
      go_wp2
      go_loop [1, 5] (fun B Y => ∃ (g b : Nat) (y : Int), B = .int .i64 (b : Int) ∧ Y = .int .i64 y ∧ 1 ≤ b ∧ b ≤ a ∧ (-1 ≤ y ∧ y ≤ 1) ∧ Hid (b + 121 - p ≤ g) ∧ Hid (Clear b p) ∧ Hid (y * rkL d g p b = rkV d a0)) (fun B _ => (intOf B).toNat)
      case atStart => exact ⟨f, a, x, rfl, rfl, ha1, Nat.le_refl _, ⟨x1, x2⟩, HF.out, HC.out, HX.out⟩
      case round =>
        obtain ⟨g, b, y, rfl, rfl, hb1, hb2, ⟨y1, y2⟩, HG, HCb, HY⟩ := hrel
        have hbi : (b : Int) ≤ 120 := by omega
        have hmod : (b : Int) % (p : Int) = ((b % p : Nat) : Int) := (Int.natCast_emod b p).symm
        have hdv : (b : Int) / (p : Int) = ((b / p : Nat) : Int) := (Int.natCast_ediv _ _).symm
        by_cases e : b % p = 0
        · have hbg : 1 < b := by
            rcases Nat.lt_or_ge 1 b with h | h
            · exact h
            · obtain rfl : b = 1 := by omega
              rw [Nat.mod_eq_of_lt (by omega)] at e; omega
          rw [e] at hmod
          obtain ⟨g, rfl⟩ : ∃ g', g = g' + 1 := ⟨g - 1, by have := HG.out; have := clear_le HCb.out hbg; omega⟩
          have hq1 : 1 ≤ b / p := Nat.div_pos (clear_le HCb.out hbg) (by omega)
          have hq2 : b / p < b := Nat.div_lt_self hb1 (by omega)
          have HG2 : Hid (b / p + 121 - p ≤ g) := by have := HG.out; have := clear_le HCb.out hbg; show _ ≤ _; omega
          have HC2 := Lib.hid (clear_div HCb.out e hp1)
          have HY2 : Hid (y * s0 * rkL d g p (b / p) = rkV d a0) := by
            show _ = _
            rw [← HY.out, rkL_hit d hbg e, HS0.out, Int.mul_assoc]
          obtain ⟨m1, m2⟩ := tri_mul ⟨y1, y2⟩ ⟨sc1, sc2⟩
          clear HY HCb HG e
          generalize b / p = q at *
          have hqi : (q : Int) ≤ 120 := by omega
          go_wp2_with (first
            | (go_at_call 77; ((with_reducible refine (HSp.out _).mono ?_); rintro e w1 ⟨rfl, rfl⟩))
            | fail)
          go_round
          case rel => exact ⟨g, q, y * s0, rfl, rfl, hq1, by omega, ⟨m1, m2⟩, HG2.out, HC2.out, HY2.out⟩
          case measure => simp [intOf]; omega
        · have hne : (((b : Int) % (p : Int)) == 0) = false := by rw [hmod, beq_eq_false_iff_ne]; omega
          have HCn := Lib.hid (clear_next HCb.out e)
          have HY2 : Hid (∃ g', b + 121 - (p + 1) ≤ g' ∧ y * rkL d g' (p + 1) b = rkV d a0) := by
            by_cases hbg : 1 < b
            · obtain ⟨g', rfl⟩ : ∃ g', g = g' + 1 := ⟨g - 1, by have := HG.out; omega⟩
              exact ⟨g', by have := HG.out; omega, by rw [← HY.out, rkL_miss d hbg e]⟩
            · exact ⟨g + 1, by have := HG.out; omega, by rw [← HY.out, rkL_one d _ _ b (by omega), rkL_one d _ _ b (by omega)]⟩
          clear hmod hdv e HY HCb HG
          obtain ⟨g', hg', hy'⟩ := HY2.out
          have HG3 := Lib.hid hg'
          have HY3 := Lib.hid hy'
          clear hg' hy' HY2
          go_wp2
          go_round
          case rel => exact ⟨g', p + 1, b, y, rfl, rfl, by go_num, hb1, by omega, by omega, by omega, ⟨y1, y2⟩, HG3.out, HCn.out, HY3.out⟩
          case measure => simp [intOf]; omega
    · have hgti : ¬ 1 < (a : Int) := by omega
      have HE : Hid (x = rkV d a0) := by show _ = _; rw [← HX.out, rkL_one d _ _ a (by omega), Int.mul_one]
      go_wp2
      go_ret
      exact ⟨ret_int' HE.out, rfl⟩
end Go.Proofs.Ytlagljnhbhnelaa
namespace Go.Proofs.Ytlagljnhbhnelaa
open Go.RowKit
set_option linter.unusedVariables false
set_option linter.unusedSimpArgs false

set_option maxHeartbeats 1600000 in
set_option maxRecDepth 1000000 in
/-- Quadratic outside the range, and of what is no fundamental discriminant. -/
theorem dquad_bad (D : Int) (w : World) (hf : ¬ (-60 ≤ D ∧ D ≤ 60 ∧ D ≠ 0 ∧ fdB D = true)) :
    Calls Try.prog 44 #[.int .i64 D] w fun e w' => e = .returned (.tuple #[.agg #[.int .i64 0, .slice none 0 0], .int .i64 (if -60 ≤ D ∧ D ≤ 60 ∧ D ≠ 0 then 15 else 2)]) ∧ Below w.heap.size w w' := by
  have R0 : Hid (((w.alloc (.cells #[.int .i64 D] 3)).alloc (.cells #[.int .i64 0, .slice none 0 0] 33)).heap[w.heap.size + 1]? = some (.cells #[.int .i64 0, .slice none 0 0] 33 (0, 0))) := by
    have := heap_alloc_new (w.alloc (.cells #[.int .i64 D] 3)) (.cells #[.int .i64 0, .slice none 0 0] 33)
    show _ = _
    simpa using this
  have T0 : Hid (((w.alloc (.cells #[.int .i64 D] 3)).alloc (.cells #[.int .i64 0, .slice none 0 0] 33)).heap[w.heap.size]? = some (.cells #[.int .i64 D] 3 (0, 0))) := block_alloc (heap_alloc_new w _) _
  have B0 : Hid (Below w.heap.size w ((w.alloc (.cells #[.int .i64 D] 3)).alloc (.cells #[.int .i64 0, .slice none 0 0] 33))) := below2 w _ _
  have c0 := cell_of_one T0.out
  by_cases hr : -60 ≤ D ∧ D ≤ 60 ∧ D ≠ 0
  · rw [if_pos hr]
    obtain ⟨d1, d2, h0⟩ := hr
    have hfb : fdB D ≠ true := fun h => hf ⟨d1, d2, h0, h⟩
    have i1 : ¬ D < -60 := by omega
    have i2 : (D == 0) = false := by rw [beq_eq_false_iff_ne]; exact h0
    have i3 : ¬ 60 < D := by omega
    by_cases h4 : D % 4 < 2
    · have he : funV D ≠ D := fun he => hfb (by unfold fdB; rw [decide_eq_true h0, decide_eq_true h4, decide_eq_true he]; rfl)
      have HF := Lib.hid (fun W => fund_F D (sgn D) D.natAbs (facs 2 D.natAbs) W rfl h0 rfl (by omega) rfl h4)
      clear h4 hfb hf
      go_enter Try.func44, Try.ntmps44
      go_wp2_with (first
        | (go_at_call 62; ((with_reducible refine (HF.out _).mono ?_); rintro e w1 ⟨disc, f, rfl, hh, hb⟩; have HB := Lib.hid (B0.out.trans (hb.mono B0.out.size)); have R1 := Lib.hid (block_below R0.out hb); have T1 := Lib.hid (block_below T0.out hb); have hdd := funV_of rfl hh.out; have hne : (disc == D) = false := (by rw [beq_eq_false_iff_ne, hdd]; exact he); have hne2 : (disc != D) = true := (by rw [bne_iff_ne, hdd]; exact he); clear hb hh hdd HF c0; have c1 := cell_of_one T1.out; obtain ⟨r0, r1, rf⟩ := cells_two R1.out))
        | fail)
      have R4 := Lib.hid (two_setC R1.out (.int .i64 0) (.slice none 0 0))
      obtain ⟨s0, s1, sf⟩ := cells_two R4.out
      have HB4 := Lib.hid ((HB.out.setCell (p := ⟨w.heap.size + 1, 0, none⟩) (by show w.heap.size ≤ w.heap.size + 1; omega) (.int .i64 0)).setCell (p := ⟨w.heap.size + 1, 1, none⟩) (by show w.heap.size ≤ w.heap.size + 1; omega) (.slice none 0 0))
      refine bodyPost_ret (v := .tuple #[.agg #[.int .i64 0, .slice none 0 0], .int .i64 15]) ?_ rfl ⟨rfl, HB4.out⟩
      simp [results, Try.results44, go_sem, s0, s1]
    · have HF := Lib.hid (fun W => fund_disc D W (by omega) (by omega) h4)
      clear h4 hfb hf
      go_enter Try.func44, Try.ntmps44
      go_wp2_with (first
        | (go_at_call 62; ((with_reducible refine (HF.out _).mono ?_); rintro e w1 ⟨rfl, hb⟩; have HB := Lib.hid (B0.out.trans (hb.mono B0.out.size)); have R1 := Lib.hid (block_below R0.out hb); clear hb HF c0; obtain ⟨r0, r1, rf⟩ := cells_two R1.out))
        | fail)
      have R4 := Lib.hid (two_setC R1.out (.int .i64 0) (.slice none 0 0))
      obtain ⟨s0, s1, sf⟩ := cells_two R4.out
      have HB4 := Lib.hid ((HB.out.setCell (p := ⟨w.heap.size + 1, 0, none⟩) (by show w.heap.size ≤ w.heap.size + 1; omega) (.int .i64 0)).setCell (p := ⟨w.heap.size + 1, 1, none⟩) (by show w.heap.size ≤ w.heap.size + 1; omega) (.slice none 0 0))
      refine bodyPost_ret (v := .tuple #[.agg #[.int .i64 0, .slice none 0 0], .int .i64 15]) ?_ rfl ⟨rfl, HB4.out⟩
      simp [results, Try.results44, go_sem, s0, s1]
  · rw [if_neg hr]
    have hz : (D < -60) ∨ (¬ D < -60 ∧ D = 0) ∨ (¬ D < -60 ∧ D ≠ 0 ∧ 60 < D) := by omega
    clear hr hf
    have HBf : Hid (Below w.heap.size w ((w.alloc (.cells #[.int .i64 D] 3)).alloc (.cells #[.int .i64 0, .slice none 0 0] 33))) := B0.out
    obtain ⟨r0, r1, rf⟩ := cells_two R0.out
    rcases hz with h | ⟨h1, rfl⟩ | ⟨h1, h2, h3⟩
    · go_enter Try.func44, Try.ntmps44
      go_wp2
      refine bodyPost_ret (v := .tuple #[.agg #[.int .i64 0, .slice none 0 0], .int .i64 2]) ?_ rfl ⟨rfl, HBf.out⟩
      simp [results, Try.results44, go_sem, r0, r1]
    · go_enter Try.func44, Try.ntmps44
      go_wp2
      refine bodyPost_ret (v := .tuple #[.agg #[.int .i64 0, .slice none 0 0], .int .i64 2]) ?_ rfl ⟨rfl, HBf.out⟩
      simp [results, Try.results44, go_sem, r0, r1]
    · have e0 : (D == 0) = false := by rw [beq_eq_false_iff_ne]; exact h2
      go_enter Try.func44, Try.ntmps44
      go_wp2
      refine bodyPost_ret (v := .tuple #[.agg #[.int .i64 0, .slice none 0 0], .int .i64 2]) ?_ rfl ⟨rfl, HBf.out⟩
      simp [results, Try.results44, go_sem, r0, r1]
end Go.Proofs.Ytlagljnhbhnelaa
namespace Go.Proofs.Ytlagljnhbhnelaa
open Go.RowKit
set_option linter.unusedVariables false
set_option linter.unusedSimpArgs false

def qrX (D : Int) (g : Nat × Nat) : Int := if rkV D g.1 < 0 then ((g.2 / 2 : Nat) : Int) else 0
/-- What is decided of the quadratic characters. -/
def quOk (D : Int) : Bool :=
  let T := tbV D.natAbs (quE D D.natAbs)
  decide ((gensV D.natAbs).map (qrX D) = quE D D.natAbs) && decide (ckX D.natAbs (quE D D.natAbs) = 0) && decide (ordV D.natAbs (quE D D.natAbs) = if D = 1 then 1 else 2) && pdV T D.natAbs && ((List.range D.natAbs).all fun f => f = 0 || !pdV T f) && decide (rouN (T.getD (D.natAbs - 1) 0) (tbM (gensV D.natAbs)) = 0 ↔ 0 < D) && ((gensV D.natAbs).all fun g => decide (1 ≤ g.1))
set_option maxRecDepth 1000000 in
theorem qu_all : (fd6.all quOk) = true := by decide +kernel
structure QuF (D : Int) : Prop where
  e : (gensV D.natAbs).map (qrX D) = quE D D.natAbs
  ck : ckX D.natAbs (quE D D.natAbs) = 0
  o : ordV D.natAbs (quE D D.natAbs) = if D = 1 then 1 else 2
  pd : pdV (tbV D.natAbs (quE D D.natAbs)) D.natAbs = true
  np : ∀ f, 1 ≤ f → f < D.natAbs → pdV (tbV D.natAbs (quE D D.natAbs)) f = false
  ev : rouN ((tbV D.natAbs (quE D D.natAbs)).getD (D.natAbs - 1) 0) (tbM (gensV D.natAbs)) = 0 ↔ 0 < D
  g1 : ∀ g ∈ gensV D.natAbs, 1 ≤ g.1
theorem qu_of {D : Int} (d1 : -60 ≤ D) (d2 : D ≤ 60) (h : fdB D = true) : QuF D := by
  have h1 := List.all_eq_true.1 qu_all D (fd6_mem d1 d2 h)
  unfold quOk at h1
  simp only [Bool.and_eq_true, decide_eq_true_eq] at h1
  obtain ⟨⟨⟨⟨⟨⟨a, b⟩, c⟩, d⟩, e⟩, f⟩, g⟩ := h1
  refine ⟨a, b, c, d, fun f f1 f2 => ?_, f, fun g' hg => by simpa using List.all_eq_true.1 g g' hg⟩
  have h3 := List.all_eq_true.1 e f (List.mem_range.2 f2)
  simp only [Bool.or_eq_true, decide_eq_true_eq, Bool.not_eq_true'] at h3
  rcases h3 with h3 | h3
  · omega
  · exact h3
set_option maxHeartbeats 1600000 in
set_option maxRecDepth 1000000 in
theorem rquad_bad (D : Int) (w : World) (hf : ¬ (-60 ≤ D ∧ D ≤ 60 ∧ D ≠ 0 ∧ fdB D = true)) :
    Calls Try.prog 45 #[.int .i64 D] w fun e w' => e = .returned (.tuple #[.agg #[.int .i64 0, .slice none 0 0], .int .i64 (if -60 ≤ D ∧ D ≤ 60 ∧ D ≠ 0 then 15 else 2)]) ∧ Below w.heap.size w w' := by
  have R0 : Hid ((w.alloc (.cells #[.int .i64 0, .slice none 0 0] 33)).heap[w.heap.size]? = some (.cells #[.int .i64 0, .slice none 0 0] 33 (0, 0))) := heap_alloc_new w _
  have B0 : Hid (Below w.heap.size w (w.alloc (.cells #[.int .i64 0, .slice none 0 0] 33))) := below1 w _
  obtain ⟨r0, r1, rf⟩ := cells_two R0.out
  by_cases hr : -60 ≤ D ∧ D ≤ 60 ∧ D ≠ 0
  · rw [if_pos hr]
    obtain ⟨d1, d2, h0⟩ := hr
    have hfb : fdB D = false := by
      rw [Bool.eq_false_iff]; exact fun h => hf ⟨d1, d2, h0, h⟩
    rw [fd_all D (by omega) (by omega), Bool.or_eq_false_iff, decide_eq_false_iff_not] at hfb
    obtain ⟨h1, h2⟩ := hfb
    have HFu := Lib.hid (fun W => rfun_any D W (by omega) (by omega))
    rw [h2] at HFu
    have i1 : ¬ D < -60 := by omega
    have i2 : (D == 0) = false := by rw [beq_eq_false_iff_ne]; exact h0
    have i3 : ¬ 60 < D := by omega
    have i4 : (D != 1) = true := by rw [bne_iff_ne]; exact h1
    clear hf h2
    go_enter Try.func45, Try.ntmps45
    go_wp2_with (first
      | (go_at_call 65; ((with_reducible refine (HFu.out _).mono ?_); rintro e w1 ⟨rfl, rfl⟩))
      | fail)
    refine bodyPost_ret (v := .tuple #[.agg #[.int .i64 0, .slice none 0 0], .int .i64 15]) ?_ rfl ⟨rfl, ?_⟩
    · simp [results, Try.results45, go_sem, r0, r1]
    · first | exact B0.out | exact (B0.out.setCell (Nat.le_refl _) _).setCell (Nat.le_refl _) _
  · rw [if_neg hr]
    have hz : D = 0 ∨ (D ≠ 0 ∧ D < -60) ∨ (D ≠ 0 ∧ ¬ D < -60 ∧ 60 < D) := by omega
    clear hr hf
    rcases hz with rfl | ⟨h1, h2⟩ | ⟨h1, h2, h3⟩
    · go_enter Try.func45, Try.ntmps45
      go_wp2
      refine bodyPost_ret (v := .tuple #[.agg #[.int .i64 0, .slice none 0 0], .int .i64 2]) ?_ rfl ⟨rfl, ?_⟩
      · simp [results, Try.results45, go_sem, r0, r1]
      · first | exact B0.out | exact (B0.out.setCell (Nat.le_refl _) _).setCell (Nat.le_refl _) _
    · have e0 : (D == 0) = false := by rw [beq_eq_false_iff_ne]; exact h1
      go_enter Try.func45, Try.ntmps45
      go_wp2
      refine bodyPost_ret (v := .tuple #[.agg #[.int .i64 0, .slice none 0 0], .int .i64 2]) ?_ rfl ⟨rfl, ?_⟩
      · simp [results, Try.results45, go_sem, r0, r1]
      · first | exact B0.out | exact (B0.out.setCell (Nat.le_refl _) _).setCell (Nat.le_refl _) _
    · have e0 : (D == 0) = false := by rw [beq_eq_false_iff_ne]; exact h1
      go_enter Try.func45, Try.ntmps45
      go_wp2
      refine bodyPost_ret (v := .tuple #[.agg #[.int .i64 0, .slice none 0 0], .int .i64 2]) ?_ rfl ⟨rfl, ?_⟩
      · simp [results, Try.results45, go_sem, r0, r1]
      · first | exact B0.out | exact (B0.out.setCell (Nat.le_refl _) _).setCell (Nat.le_refl _) _
/-- A character that grows: its box at tb, its row above C. -/
structure OW (B C tb : Nat) (w0 w2 : World) (n : Nat) (v : Value) (E : List Int) (w : World) : Prop where
  tc : tb < C
  tB : B ≤ tb
  size : C ≤ w.heap.size
  box : w.heap[tb]? = some (.cells #[.int .i64 (n : Int), v] 33 (0, 0))
  own : w.ownsRow C 3 1 v E.length (zs E)
  keep : ∀ j, j < C → j ≠ tb → w.heap[j]? = w2.heap[j]?
  below : Below B w0 w
theorem OW.push {B C tb : Nat} {w0 w2 w w1 : World} {n : Nat} {v v' : Value} {E : List Int} {x : Int} {o : Obj} (h : OW B C tb w0 w2 n v E w)
    (hown : w1.ownsRow C 3 1 v' (E.length + 1) (zs E ++ [.int .i64 x])) (hg : (w.alloc o).grownBy w1 v.ownBlock) :
    w1.heap[tb]? = some (.cells #[.int .i64 (n : Int), v] 33 (0, 0)) ∧ OW B C tb w0 w2 n v' (E ++ [x]) (w1.setCell ⟨tb, 1, none⟩ v') := by
  have hs := h.size
  have hc := h.tc
  have hB := h.tB
  have hne : ∀ j, j < C → some j ≠ v.ownBlock := fun j hj e => by have := (h.own.lt j e.symm).1; omega
  have hat : ∀ j, j < C → w1.heap[j]? = w.heap[j]? := fun j hj => by
    rw [hg.block j (by simp; omega) (hne _ hj), Below.heap_alloc _ _ _ (by omega)]
  have h1 : w1.heap[tb]? = some (.cells #[.int .i64 (n : Int), v] 33 (0, 0)) := (hat _ hc).trans h.box
  refine ⟨h1, hc, hB, ?_, ?_, ?_, fun j hj hn => ((Below.heap_setCell _ _ _ _ (by show j ≠ tb; exact hn)).trans (hat j hj)).trans (h.keep j hj hn), ?_⟩
  · have h9 := hg.size; simp at h9; simp; omega
  · exact heap_setCell_same _ tb 1 #[.int .i64 (n : Int), v] _ v' h1
  · rw [zs_append, List.length_append]
    exact ownsRow_setCell_below hown (by show tb < C; omega) _
  · exact ((h.below.alloc (by omega) o).grown hg (by simp; omega) (fun j hj => by have := (h.own.lt j hj).1; omega)).setCell (by show B ≤ tb; omega) _
set_option maxHeartbeats 3200000 in
set_option maxRecDepth 1000000 in
theorem rquad_ok (D : Int) (w : World) (d1 : -60 ≤ D) (d2 : D ≤ 60) (h0 : D ≠ 0) (hf : fdB D = true) :
    Calls Try.prog 45 #[.int .i64 D] w fun e w' => ∃ v, e = .returned (.tuple #[.agg #[.int .i64 (D.natAbs : Nat), v], .int .i64 0]) ∧ w'.ownsRow w.heap.size 3 1 v (quE D D.natAbs).length (zs (quE D D.natAbs)) ∧ Below w.heap.size w w' := by
  have hqf := qu_of d1 d2 hf
  have HE : Hid (((gensV D.natAbs).take (gensV D.natAbs).length).map (qrX D) = quE D D.natAbs) := by show _ = _; rw [List.take_length]; exact hqf.e
  have HG1 := Lib.hid hqf.g1
  have N1 : 1 ≤ D.natAbs := by omega
  have N2 : ((D.natAbs : Nat) : Int) ≤ 60 := by omega
  have hmax : max D (-D) = ((D.natAbs : Nat) : Int) := by omega
  have hneg : IntKind.i64.wrap (-D) = -D := IntWalk.i64_in _ (by omega)
  have HRg : Hid (∀ W : World, Calls Try.prog 16 #[.int .i64 (D.natAbs : Nat)] W fun e w' => ∃ A1 c1 A2 c2, e = .returned (.tuple #[.slice A1 (gensV D.natAbs).length c1, .slice A2 (gensV D.natAbs).length c2]) ∧ RdZ w' w'.heap.size A1 c1 (m1 (gensV D.natAbs)) ∧ RdZ w' w'.heap.size A2 c2 (m2 (gensV D.natAbs)) ∧ Below W.heap.size W w') := fun W => by
    refine (rgenr_any D.natAbs W N1 N2).mono fun e w' ⟨v1, v2, he, h1, h2, hb⟩ => ?_
    obtain ⟨A1, c1, rfl, hr1⟩ := own_rdz h1
    obtain ⟨A2, c2, rfl, hr2⟩ := own_rdz h2
    rw [List.length_map, List.length_map] at he
    exact ⟨A1, c1, A2, c2, he, hr1, hr2, hb⟩
  have HKr := Lib.hid (fun (a : Nat) (h1 : 1 ≤ a) (h2 : (a : Int) ≤ 120) W => rkron_any D a W (by omega) (by omega) h1 h2)
  have HFu := Lib.hid (fun W => rfun_any D W (by omega) (by omega))
  have HGb := Lib.hid (gens_facts N1 (show D.natAbs ≤ 60 by omega))
  have hgl := HGb.out.len
  have HMg1 : Hid (∀ k (h : k < (gensV D.natAbs).length) (h2 : k < (m1 (gensV D.natAbs)).length), (m1 (gensV D.natAbs))[k] = (((gensV D.natAbs)[k].1 : Nat) : Int)) := fun k h h2 => by simp [m1]
  have HMg2 : Hid (∀ k (h : k < (gensV D.natAbs).length) (h2 : k < (m2 (gensV D.natAbs)).length), (m2 (gensV D.natAbs))[k] = (((gensV D.natAbs)[k].2 : Nat) : Int)) := fun k h h2 => by simp [m2]
  have HLl : Hid ((m1 (gensV D.natAbs)).length = (gensV D.natAbs).length ∧ (m2 (gensV D.natAbs)).length = (gensV D.natAbs).length) := ⟨List.length_map .., List.length_map ..⟩
  have R0 : Hid ((w.alloc (.cells #[.int .i64 0, .slice none 0 0] 33)).heap[w.heap.size]? = some (.cells #[.int .i64 0, .slice none 0 0] 33 (0, 0))) := heap_alloc_new w _
  have B0 : Hid (Below w.heap.size w (w.alloc (.cells #[.int .i64 0, .slice none 0 0] 33))) := below1 w _
  have i1 : ¬ D < -60 := by omega
  have i2 : (D == 0) = false := by rw [beq_eq_false_iff_ne]; exact h0
  have i3 : ¬ 60 < D := by omega
  have hfd := hf
  rw [fd_all D (by omega) (by omega), Bool.or_eq_true, decide_eq_true_eq] at hfd
  have hg1 : ¬ ((D != 1) = true ∧ fdR D = false) := fun ⟨h1, h2⟩ => by
    rw [bne_iff_ne] at h1
    rcases hfd with h | h
    · exact h1 h
    · rw [h] at h2; cases h2
  clear hqf hf hfd
  generalize quE D D.natAbs = Q at *
  generalize gensV D.natAbs = G at *
  generalize D.natAbs = n at *
  have hcase : (D = 1) ∨ (D ≠ 1 ∧ fdR D = true) := by
    by_cases h : D = 1
    · exact .inl h
    · refine .inr ⟨h, ?_⟩
      cases hb : fdR D with
      | true => rfl
      | false => exact absurd ⟨by rw [bne_iff_ne]; exact h, hb⟩ hg1
  clear hg1
  obtain ⟨r0, r1, rf⟩ := cells_two R0.out
  rcases hcase with hD1 | ⟨hD1, hfr⟩
  · have i4 : (D != 1) = false := by rw [bne_eq_false_iff_eq]; exact hD1
    clear hD1
    go_enter Try.func45, Try.ntmps45
    go_upto_region 8 with (first
      | (go_at_call 65; ((with_reducible refine (HFu.out _).mono ?_); rintro e w1 ⟨rfl, rfl⟩))
      | (go_at_call 16; ((with_reducible refine (HRg.out _).mono ?_); rintro e w2 ⟨A1, c1, A2, c2, rfl, hr1, hr2, hb⟩; have B2 := Lib.hid (B0.out.trans (hb.mono B0.out.size)); have R2 := Lib.hid (block_below R0.out hb); have HR1 := Lib.hid hr1; have HR2 := Lib.hid hr2; clear hr1 hr2 hb))
      | fail)
    have hs2 := lt_of_block R2.out
    have HO3 : Hid (OW w.heap.size (w2.heap.size + 1) w2.heap.size w (w2.alloc (.cells #[.int .i64 (n : Int), .slice none 0 0] 33)) n (.slice none 0 0) [] (w2.alloc (.cells #[.int .i64 (n : Int), .slice none 0 0] 33))) :=
      ⟨by omega, by omega, by simp, heap_alloc_new w2 _, World.ownsRow_nil _ _ _ _, fun _ _ _ => rfl, B2.out.alloc B2.out.size _⟩
    have HRa : Hid (∀ v E W, OW w.heap.size (w2.heap.size + 1) w2.heap.size w (w2.alloc (.cells #[.int .i64 (n : Int), .slice none 0 0] 33)) n v E W → RdZ W w2.heap.size A1 c1 (m1 G) ∧ RdZ W w2.heap.size A2 c2 (m2 G) ∧ W.heap[w.heap.size]? = some (.cells #[.int .i64 0, .slice none 0 0] 33 (0, 0))) := fun v E W h => by
      have hk : ∀ b o, b < w2.heap.size → W.cell? ⟨b, o, none⟩ = w2.cell? ⟨b, o, none⟩ := fun b o hb => World.cell?_of_block ((h.keep b (by omega) (by omega)).trans (Below.heap_alloc _ _ _ hb))
      exact ⟨HR1.out.keep hk, HR2.out.keep hk, (h.keep _ (by omega) (by omega)).trans ((Below.heap_alloc _ _ _ hs2).trans R2.out)⟩
    generalize (w2.alloc (.cells #[.int .i64 (n : Int), .slice none 0 0] 33)) = w3 at *
    generalize w2.heap.size = tb at *
    go_wp2
    go_loopw [8, 9] (fun I _ wr => ∃ (k : Nat) (v : Value), I = .int .i64 (k : Int) ∧ k ≤ G.length ∧ Hid (OW w.heap.size (tb + 1) tb w w3 n v ((G.take k).map (qrX D)) wr)) (fun I _ _ => G.length - (intOf I).toNat)
    case atStart => exact ⟨0, _, rfl, Nat.zero_le _, HO3.out⟩
    case round =>
      clear HO3
      obtain ⟨k, v, rfl, hk, HO⟩ := hrel
      have HOs := Lib.hid HO.out.size
      by_cases hkl : k < G.length
      · have hkli : (k : Int) < (G.length : Int) := by omega
        obtain ⟨ra1, ra2, _⟩ := HRa.out _ _ _ HO.out
        obtain ⟨b1, o1, rfl, _, y1⟩ := ra1.at_ (k := k) (by rw [HLl.out.1]; exact hkl)
        obtain ⟨b2, o2, rfl, _, y2⟩ := ra2.at_ (k := k) (by rw [HLl.out.2]; exact hkl)
        rw [HMg1.out k hkl] at y1
        rw [HMg2.out k hkl] at y2
        have p60 := HGb.out.v _ (List.getElem_mem hkl)
        have q60 := HGb.out.o2 _ (List.getElem_mem hkl)
        have p1 := HG1.out _ (List.getElem_mem hkl)
        have HN : Hid ((G.take (k + 1)).map (qrX D) = (G.take k).map (qrX D) ++ [qrX D G[k]]) := by
          show _ = _
          rw [List.take_add_one, List.getElem?_eq_getElem hkl, Option.toList_some, List.map_append]; rfl
        have htl : ((G.take k).map (qrX D)).length = k := by rw [List.length_map, List.length_take]; omega
        have HTl := Lib.hid htl
        have hqx : qrX D G[k] = if rkV D G[k].1 < 0 then ((G[k].2 / 2 : Nat) : Int) else 0 := rfl
        have HKk := Lib.hid (HKr.out G[k].1 p1 (by omega))
        clear ra1 ra2 htl
        generalize qrX D G[k] = x at *
        generalize G[k] = f at *
        obtain ⟨p, q⟩ := f
        simp only at y1 y2 p60 q60 p1 hqx HKk
        obtain ⟨z1, z2, zf⟩ := cells_two HO.out.box
        have HOw : Hid (wr.ownsRow (tb + 1) 3 1 v k (zs ((G.take k).map (qrX D)))) := by have := HO.out.own; rw [HTl.out] at this; exact this
        generalize (G.take k).map (qrX D) = L at *
        have hsz : tb + 1 ≤ wr.heap.size := HOs.out
        generalize rkV D p = kv at *
        have hq2 : q / 2 ≤ 30 := by omega
        have htd : Int.tdiv (q : Int) 2 = ((q / 2 : Nat) : Int) := by rw [Int.tdiv_eq_ediv_of_nonneg (by omega)]; omega
        have hdv : (q : Int) / 2 = ((q / 2 : Nat) : Int) := by omega
        generalize q / 2 = qh at *
        have hwq : IntKind.i64.wrap (qh : Int) = (qh : Int) := IntWalk.i64_in _ (by omega)
        by_cases hneg : kv < 0
        · rw [if_pos hneg] at hqx
          subst hqx
          go_wp2_with (first
            | (go_at_call 66; ((with_reducible refine (HKk.out _).mono ?_); rintro e w4 ⟨rfl, rfl⟩))
            | (at_builtin; (refine app_snap _ rfl _ _ rfl (tb + 1) _ _ _ rfl (HOw.out.alloc _) wr.heap.size (.int .i64 (qh : Int)) rfl (cell_one_new _ _ _) rfl (by omega) (by simp; omega) ?_); intro g5 cap5 w5 hown hg hat; obtain ⟨hbx, hxn⟩ := HO.out.push (by rw [HTl.out]; exact hown) hg; have HX := Lib.hid hxn; clear z1 z2 zf; obtain ⟨z1, z2, zf⟩ := cells_two hbx; clear hown hg hat hbx hxn)
            | fail)
          go_roundw
          case rel => exact ⟨k + 1, _, by go_num, by omega, by rw [HN.out]; exact HX.out⟩
          case measure => simp [intOf]; omega
        · rw [if_neg hneg] at hqx
          subst hqx
          go_wp2_with (first
            | (go_at_call 66; ((with_reducible refine (HKk.out _).mono ?_); rintro e w4 ⟨rfl, rfl⟩))
            | (at_builtin; (refine app_snap _ rfl _ _ rfl (tb + 1) _ _ _ rfl (HOw.out.alloc _) wr.heap.size (.int .i64 0) rfl (cell_one_new _ _ _) rfl (by omega) (by simp; omega) ?_); intro g5 cap5 w5 hown hg hat; obtain ⟨hbx, hxn⟩ := HO.out.push (by rw [HTl.out]; exact hown) hg; have HX := Lib.hid hxn; clear z1 z2 zf; obtain ⟨z1, z2, zf⟩ := cells_two hbx; clear hown hg hat hbx hxn)
            | fail)
          go_roundw
          case rel => exact ⟨k + 1, _, by go_num, by omega, by rw [HN.out]; exact HX.out⟩
          case measure => simp [intOf]; omega
      · obtain rfl : k = G.length := by omega
        have hk3 : ¬ (G.length : Int) < (G.length : Int) := by omega
        rw [HE.out] at HO
        obtain ⟨A0, l0, c0, rfl⟩ := ownsRow_slice HO.out.own
        obtain ⟨z1, z2, zf⟩ := cells_two HO.out.box
        have hr0 := (HRa.out _ _ _ HO.out).2.2
        obtain ⟨r0, r1, rf⟩ := cells_two hr0
        have R4 := Lib.hid (two_setC hr0 (.int .i64 (n : Int)) (.slice A0 l0 c0))
        obtain ⟨s0, s1, sf⟩ := cells_two R4.out
        have HOf := Lib.hid (own_base (show w.heap.size ≤ tb + 1 by omega) (ownsRow_setCell_below (ownsRow_setCell_below HO.out.own (a := ⟨w.heap.size, 0, none⟩) (by show w.heap.size < tb + 1; omega) (.int .i64 (n : Int))) (a := ⟨w.heap.size, 1, none⟩) (by show w.heap.size < tb + 1; omega) (.slice A0 l0 c0)))
        have HBf := Lib.hid ((HO.out.below.setCell (p := ⟨w.heap.size, 0, none⟩) (Nat.le_refl _) (.int .i64 (n : Int))).setCell (p := ⟨w.heap.size, 1, none⟩) (Nat.le_refl _) (.slice A0 l0 c0))
        clear hr0
        go_wp2
        refine bodyPost_ret (v := .tuple #[.agg #[.int .i64 (n : Int), .slice A0 l0 c0], .int .i64 0]) ?_ rfl ⟨_, rfl, HOf.out, HBf.out⟩
        simp [results, Try.results45, go_sem, s0, s1]
  · have i4 : (D != 1) = true := by rw [bne_iff_ne]; exact hD1
    rw [hfr] at HFu
    clear hD1 hfr
    go_enter Try.func45, Try.ntmps45
    go_upto_region 8 with (first
      | (go_at_call 65; ((with_reducible refine (HFu.out _).mono ?_); rintro e w1 ⟨rfl, rfl⟩))
      | (go_at_call 16; ((with_reducible refine (HRg.out _).mono ?_); rintro e w2 ⟨A1, c1, A2, c2, rfl, hr1, hr2, hb⟩; have B2 := Lib.hid (B0.out.trans (hb.mono B0.out.size)); have R2 := Lib.hid (block_below R0.out hb); have HR1 := Lib.hid hr1; have HR2 := Lib.hid hr2; clear hr1 hr2 hb))
      | fail)
    have hs2 := lt_of_block R2.out
    have HO3 : Hid (OW w.heap.size (w2.heap.size + 1) w2.heap.size w (w2.alloc (.cells #[.int .i64 (n : Int), .slice none 0 0] 33)) n (.slice none 0 0) [] (w2.alloc (.cells #[.int .i64 (n : Int), .slice none 0 0] 33))) :=
      ⟨by omega, by omega, by simp, heap_alloc_new w2 _, World.ownsRow_nil _ _ _ _, fun _ _ _ => rfl, B2.out.alloc B2.out.size _⟩
    have HRa : Hid (∀ v E W, OW w.heap.size (w2.heap.size + 1) w2.heap.size w (w2.alloc (.cells #[.int .i64 (n : Int), .slice none 0 0] 33)) n v E W → RdZ W w2.heap.size A1 c1 (m1 G) ∧ RdZ W w2.heap.size A2 c2 (m2 G) ∧ W.heap[w.heap.size]? = some (.cells #[.int .i64 0, .slice none 0 0] 33 (0, 0))) := fun v E W h => by
      have hk : ∀ b o, b < w2.heap.size → W.cell? ⟨b, o, none⟩ = w2.cell? ⟨b, o, none⟩ := fun b o hb => World.cell?_of_block ((h.keep b (by omega) (by omega)).trans (Below.heap_alloc _ _ _ hb))
      exact ⟨HR1.out.keep hk, HR2.out.keep hk, (h.keep _ (by omega) (by omega)).trans ((Below.heap_alloc _ _ _ hs2).trans R2.out)⟩
    generalize (w2.alloc (.cells #[.int .i64 (n : Int), .slice none 0 0] 33)) = w3 at *
    generalize w2.heap.size = tb at *
    go_wp2
    go_loopw [8, 9] (fun I _ wr => ∃ (k : Nat) (v : Value), I = .int .i64 (k : Int) ∧ k ≤ G.length ∧ Hid (OW w.heap.size (tb + 1) tb w w3 n v ((G.take k).map (qrX D)) wr)) (fun I _ _ => G.length - (intOf I).toNat)
    case atStart => exact ⟨0, _, rfl, Nat.zero_le _, HO3.out⟩
    case round =>
      clear HO3
      obtain ⟨k, v, rfl, hk, HO⟩ := hrel
      have HOs := Lib.hid HO.out.size
      by_cases hkl : k < G.length
      · have hkli : (k : Int) < (G.length : Int) := by omega
        obtain ⟨ra1, ra2, _⟩ := HRa.out _ _ _ HO.out
        obtain ⟨b1, o1, rfl, _, y1⟩ := ra1.at_ (k := k) (by rw [HLl.out.1]; exact hkl)
        obtain ⟨b2, o2, rfl, _, y2⟩ := ra2.at_ (k := k) (by rw [HLl.out.2]; exact hkl)
        rw [HMg1.out k hkl] at y1
        rw [HMg2.out k hkl] at y2
        have p60 := HGb.out.v _ (List.getElem_mem hkl)
        have q60 := HGb.out.o2 _ (List.getElem_mem hkl)
        have p1 := HG1.out _ (List.getElem_mem hkl)
        have HN : Hid ((G.take (k + 1)).map (qrX D) = (G.take k).map (qrX D) ++ [qrX D G[k]]) := by
          show _ = _
          rw [List.take_add_one, List.getElem?_eq_getElem hkl, Option.toList_some, List.map_append]; rfl
        have htl : ((G.take k).map (qrX D)).length = k := by rw [List.length_map, List.length_take]; omega
        have HTl := Lib.hid htl
        have hqx : qrX D G[k] = if rkV D G[k].1 < 0 then ((G[k].2 / 2 : Nat) : Int) else 0 := rfl
        have HKk := Lib.hid (HKr.out G[k].1 p1 (by omega))
        clear ra1 ra2 htl
        generalize qrX D G[k] = x at *
        generalize G[k] = f at *
        obtain ⟨p, q⟩ := f
        simp only at y1 y2 p60 q60 p1 hqx HKk
        obtain ⟨z1, z2, zf⟩ := cells_two HO.out.box
        have HOw : Hid (wr.ownsRow (tb + 1) 3 1 v k (zs ((G.take k).map (qrX D)))) := by have := HO.out.own; rw [HTl.out] at this; exact this
        generalize (G.take k).map (qrX D) = L at *
        have hsz : tb + 1 ≤ wr.heap.size := HOs.out
        generalize rkV D p = kv at *
        have hq2 : q / 2 ≤ 30 := by omega
        have htd : Int.tdiv (q : Int) 2 = ((q / 2 : Nat) : Int) := by rw [Int.tdiv_eq_ediv_of_nonneg (by omega)]; omega
        have hdv : (q : Int) / 2 = ((q / 2 : Nat) : Int) := by omega
        generalize q / 2 = qh at *
        have hwq : IntKind.i64.wrap (qh : Int) = (qh : Int) := IntWalk.i64_in _ (by omega)
        by_cases hneg : kv < 0
        · rw [if_pos hneg] at hqx
          subst hqx
          go_wp2_with (first
            | (go_at_call 66; ((with_reducible refine (HKk.out _).mono ?_); rintro e w4 ⟨rfl, rfl⟩))
            | (at_builtin; (refine app_snap _ rfl _ _ rfl (tb + 1) _ _ _ rfl (HOw.out.alloc _) wr.heap.size (.int .i64 (qh : Int)) rfl (cell_one_new _ _ _) rfl (by omega) (by simp; omega) ?_); intro g5 cap5 w5 hown hg hat; obtain ⟨hbx, hxn⟩ := HO.out.push (by rw [HTl.out]; exact hown) hg; have HX := Lib.hid hxn; clear z1 z2 zf; obtain ⟨z1, z2, zf⟩ := cells_two hbx; clear hown hg hat hbx hxn)
            | fail)
          go_roundw
          case rel => exact ⟨k + 1, _, by go_num, by omega, by rw [HN.out]; exact HX.out⟩
          case measure => simp [intOf]; omega
        · rw [if_neg hneg] at hqx
          subst hqx
          go_wp2_with (first
            | (go_at_call 66; ((with_reducible refine (HKk.out _).mono ?_); rintro e w4 ⟨rfl, rfl⟩))
            | (at_builtin; (refine app_snap _ rfl _ _ rfl (tb + 1) _ _ _ rfl (HOw.out.alloc _) wr.heap.size (.int .i64 0) rfl (cell_one_new _ _ _) rfl (by omega) (by simp; omega) ?_); intro g5 cap5 w5 hown hg hat; obtain ⟨hbx, hxn⟩ := HO.out.push (by rw [HTl.out]; exact hown) hg; have HX := Lib.hid hxn; clear z1 z2 zf; obtain ⟨z1, z2, zf⟩ := cells_two hbx; clear hown hg hat hbx hxn)
            | fail)
          go_roundw
          case rel => exact ⟨k + 1, _, by go_num, by omega, by rw [HN.out]; exact HX.out⟩
          case measure => simp [intOf]; omega
      · obtain rfl : k = G.length := by omega
        have hk3 : ¬ (G.length : Int) < (G.length : Int) := by omega
        rw [HE.out] at HO
        obtain ⟨A0, l0, c0, rfl⟩ := ownsRow_slice HO.out.own
        obtain ⟨z1, z2, zf⟩ := cells_two HO.out.box
        have hr0 := (HRa.out _ _ _ HO.out).2.2
        obtain ⟨r0, r1, rf⟩ := cells_two hr0
        have R4 := Lib.hid (two_setC hr0 (.int .i64 (n : Int)) (.slice A0 l0 c0))
        obtain ⟨s0, s1, sf⟩ := cells_two R4.out
        have HOf := Lib.hid (own_base (show w.heap.size ≤ tb + 1 by omega) (ownsRow_setCell_below (ownsRow_setCell_below HO.out.own (a := ⟨w.heap.size, 0, none⟩) (by show w.heap.size < tb + 1; omega) (.int .i64 (n : Int))) (a := ⟨w.heap.size, 1, none⟩) (by show w.heap.size < tb + 1; omega) (.slice A0 l0 c0)))
        have HBf := Lib.hid ((HO.out.below.setCell (p := ⟨w.heap.size, 0, none⟩) (Nat.le_refl _) (.int .i64 (n : Int))).setCell (p := ⟨w.heap.size, 1, none⟩) (Nat.le_refl _) (.slice A0 l0 c0))
        clear hr0
        go_wp2
        refine bodyPost_ret (v := .tuple #[.agg #[.int .i64 (n : Int), .slice A0 l0 c0], .int .i64 0]) ?_ rfl ⟨_, rfl, HOf.out, HBf.out⟩
        simp [results, Try.results45, go_sem, s0, s1]
end Go.Proofs.Ytlagljnhbhnelaa
namespace Go.Proofs.Ytlagljnhbhnelaa
open Go.RowKit
set_option linter.unusedVariables false
set_option linter.unusedSimpArgs false

set_option maxHeartbeats 6400000 in
set_option maxRecDepth 1000000 in
theorem lqu_walk (D : Int) (w : World) : Calls Try.prog 12 #[.int .i64 D] w fun e w' => e = .returned (.bool true) ∧ Below w.heap.size w w' := by
  have HA := Lib.hid awake28_any
  by_cases h : -60 ≤ D ∧ D ≤ 60 ∧ D ≠ 0 ∧ fdB D = true
  · obtain ⟨d1, d2, h0, hf⟩ := h
    have hq := qu_of d1 d2 hf
    have N1 : 1 ≤ D.natAbs := by omega
    have N2 : ((D.natAbs : Nat) : Int) ≤ 60 := by omega
    have hmax : max D (-D) = ((D.natAbs : Nat) : Int) := by omega
    have hneg : IntKind.i64.wrap (-D) = -D := IntWalk.i64_in _ (by omega)
    have HQ := Lib.hid (fun W => dquad_any D W hf d1 d2)
    have HR := Lib.hid (fun W => rquad_ok D W d1 d2 h0 hf)
    have HCo := Lib.hid (fun (A : Option Addr) (c : Nat) (W : World) (hW : RdZ W W.heap.size A c (quE D D.natAbs)) => dcond_any D.natAbs D.natAbs (quE D D.natAbs) A c W N1 N2 hW hq.ck N1 N2 hq.pd hq.np)
    have HOr := Lib.hid (fun (A : Option Addr) (c : Nat) (W : World) (hW : RdZ W W.heap.size A c (quE D D.natAbs)) => dorder_any D.natAbs (quE D D.natAbs) A c W N1 N2 hW hq.ck)
    have HEv := Lib.hid (fun (A : Option Addr) (c : Nat) (W : World) (hW : RdZ W W.heap.size A c (quE D D.natAbs)) => deven_any D.natAbs (quE D D.natAbs) A c W N1 N2 hW hq.ck)
    have hev : decide (rouN ((tbV D.natAbs (quE D D.natAbs)).getD (-1 % ((D.natAbs : Nat) : Int)).toNat 0) (tbM (gensV D.natAbs)) = 0) = decide (0 < D) := by
      rw [decide_eq_decide]
      rw [show (-1 % ((D.natAbs : Nat) : Int)).toNat = D.natAbs - 1 by
        have : (-1 : Int) % ((D.natAbs : Nat) : Int) = ((D.natAbs : Nat) : Int) - 1 := by
          rw [show (-1 : Int) = (((D.natAbs : Nat) : Int) - 1) + ((D.natAbs : Nat) : Int) * (-1) by omega, Int.add_mul_emod_self_left, Int.emod_eq_of_lt (by omega) (by omega)]
        rw [this]; omega]
      exact hq.ev
    rw [hev] at HEv
    rw [hq.o] at HOr
    clear hev hq hf
    generalize quE D D.natAbs = Q at *
    generalize D.natAbs = n at *
    have hc : D = 1 ∨ (D ≠ 1 ∧ 0 < D) ∨ (D ≠ 1 ∧ ¬ 0 < D) := by omega
    rcases hc with h1 | ⟨h1, h2⟩ | ⟨h1, h2⟩
    · have e1 : (D == 1) = true := by rw [beq_iff_eq]; exact h1
      have h2 : 0 < D := by omega
      rw [decide_eq_true h2] at HEv
      rw [if_pos h1] at HOr
      clear h1
      go_enter Try.func12, Try.ntmps12
      go_upto_region 4 with (first
        | (go_at_call 13; ((with_reducible refine (HA.out _).mono ?_); rintro e v1 ⟨rfl, hb⟩; have B1 := Lib.hid hb; clear hb))
        | (go_at_call 44; ((with_reducible refine (HQ.out _).mono ?_); rintro e v2 ⟨v, rfl, ho, hb⟩; obtain ⟨A2, c2, rfl, hr⟩ := own_rdz ho; have P2 := Lib.hid hr; have B2 := Lib.hid (B1.out.trans (hb.mono B1.out.size)); clear hb ho hr))
        | fail)
      have X3 := Lib.hid (heap_alloc_new v2 (.cells #[.int .i64 (n : Int), .slice A2 Q.length c2] 33))
      have B3 : Hid (Below w.heap.size w (v2.alloc (.cells #[.int .i64 (n : Int), .slice A2 Q.length c2] 33))) := B2.out.alloc B2.out.size _
      have P3 := Lib.hid ((P2.out.below (below1 v2 (.cells #[.int .i64 (n : Int), .slice A2 Q.length c2] 33))).mono (below1 v2 (.cells #[.int .i64 (n : Int), .slice A2 Q.length c2] 33)).size)
      generalize v2.alloc (.cells #[.int .i64 (n : Int), .slice A2 Q.length c2] 33) = v3 at *
      generalize v2.heap.size = xb at *
      go_upto_region 5 with (first
        | (go_at_call 45; ((with_reducible refine (HR.out _).mono ?_); rintro e v4 ⟨v, rfl, ho, hb⟩; obtain ⟨A4, c4, rfl, hr⟩ := own_rdz ho; have P4 := Lib.hid hr; have X4 := Lib.hid (block_below X3.out hb); have P3b := Lib.hid ((P3.out.below hb).mono hb.size); have B4 := Lib.hid (B3.out.trans (hb.mono B3.out.size)); clear hb ho hr))
        | fail)
      have Y5 := Lib.hid (heap_alloc_new v4 (.cells #[.int .i64 (n : Int), .slice A4 Q.length c4] 33))
      have X5 := Lib.hid (block_alloc X4.out (.cells #[.int .i64 (n : Int), .slice A4 Q.length c4] 33))
      have B5 : Hid (Below w.heap.size w (v4.alloc (.cells #[.int .i64 (n : Int), .slice A4 Q.length c4] 33))) := B4.out.alloc B4.out.size _
      have P5 := Lib.hid ((P3b.out.below (below1 v4 (.cells #[.int .i64 (n : Int), .slice A4 Q.length c4] 33))).mono (below1 v4 (.cells #[.int .i64 (n : Int), .slice A4 Q.length c4] 33)).size)
      have S5 := Lib.hid ((P4.out.below (below1 v4 (.cells #[.int .i64 (n : Int), .slice A4 Q.length c4] 33))).mono (below1 v4 (.cells #[.int .i64 (n : Int), .slice A4 Q.length c4] 33)).size)
      generalize v4.alloc (.cells #[.int .i64 (n : Int), .slice A4 Q.length c4] 33) = v5 at *
      generalize v4.heap.size = yb at *
      obtain ⟨x0, x1, _⟩ := cells_two X5.out
      obtain ⟨y0, y1, _⟩ := cells_two Y5.out
      go_wp2_with (first
        | (go_at_call 30; ((with_reducible refine (csame_any (n : Int) Q _ _ _ _ _ _ _ P5.out S5.out (Nat.le_refl _) (Nat.le_refl _)).mono ?_); rintro e v6 ⟨rfl, hb⟩; have B6 := Lib.hid (B5.out.trans (hb.mono B5.out.size)); have X6 := Lib.hid (block_below X5.out hb); have P6 := Lib.hid ((P5.out.below hb).mono hb.size); clear x0 x1 y0 y1 hb; obtain ⟨x0, x1, _⟩ := cells_two X6.out))
        | (go_at_call 21; ((with_reducible refine (HCo.out _ _ _ P6.out).mono ?_); rintro e v7 ⟨rfl, hb⟩; have B7 := Lib.hid (B6.out.trans (hb.mono B6.out.size)); have X7 := Lib.hid (block_below X6.out hb); have P7 := Lib.hid ((P6.out.below hb).mono hb.size); clear x0 x1 hb; obtain ⟨x0, x1, _⟩ := cells_two X7.out))
        | (go_at_call 20; ((with_reducible refine (HOr.out _ _ _ P7.out).mono ?_); rintro e v8 ⟨rfl, hb⟩; have B8 := Lib.hid (B7.out.trans (hb.mono B7.out.size)); have X8 := Lib.hid (block_below X7.out hb); have P8 := Lib.hid ((P7.out.below hb).mono hb.size); clear x0 x1 hb; obtain ⟨x0, x1, _⟩ := cells_two X8.out))
        | (go_at_call 22; ((with_reducible refine (HEv.out _ _ _ P8.out).mono ?_); rintro e v9 ⟨rfl, hb⟩; have B9 := Lib.hid (B8.out.trans (hb.mono B8.out.size)); clear x0 x1 hb))
        | fail)
      go_ret
      exact ⟨by first | rfl | (simp; done) | (simp; omega), B9.out⟩
    · have e1 : (D == 1) = false := by rw [beq_eq_false_iff_ne]; exact h1
      rw [decide_eq_true h2] at HEv
      rw [if_neg h1] at HOr
      clear h1
      go_enter Try.func12, Try.ntmps12
      go_upto_region 4 with (first
        | (go_at_call 13; ((with_reducible refine (HA.out _).mono ?_); rintro e v1 ⟨rfl, hb⟩; have B1 := Lib.hid hb; clear hb))
        | (go_at_call 44; ((with_reducible refine (HQ.out _).mono ?_); rintro e v2 ⟨v, rfl, ho, hb⟩; obtain ⟨A2, c2, rfl, hr⟩ := own_rdz ho; have P2 := Lib.hid hr; have B2 := Lib.hid (B1.out.trans (hb.mono B1.out.size)); clear hb ho hr))
        | fail)
      have X3 := Lib.hid (heap_alloc_new v2 (.cells #[.int .i64 (n : Int), .slice A2 Q.length c2] 33))
      have B3 : Hid (Below w.heap.size w (v2.alloc (.cells #[.int .i64 (n : Int), .slice A2 Q.length c2] 33))) := B2.out.alloc B2.out.size _
      have P3 := Lib.hid ((P2.out.below (below1 v2 (.cells #[.int .i64 (n : Int), .slice A2 Q.length c2] 33))).mono (below1 v2 (.cells #[.int .i64 (n : Int), .slice A2 Q.length c2] 33)).size)
      generalize v2.alloc (.cells #[.int .i64 (n : Int), .slice A2 Q.length c2] 33) = v3 at *
      generalize v2.heap.size = xb at *
      go_upto_region 5 with (first
        | (go_at_call 45; ((with_reducible refine (HR.out _).mono ?_); rintro e v4 ⟨v, rfl, ho, hb⟩; obtain ⟨A4, c4, rfl, hr⟩ := own_rdz ho; have P4 := Lib.hid hr; have X4 := Lib.hid (block_below X3.out hb); have P3b := Lib.hid ((P3.out.below hb).mono hb.size); have B4 := Lib.hid (B3.out.trans (hb.mono B3.out.size)); clear hb ho hr))
        | fail)
      have Y5 := Lib.hid (heap_alloc_new v4 (.cells #[.int .i64 (n : Int), .slice A4 Q.length c4] 33))
      have X5 := Lib.hid (block_alloc X4.out (.cells #[.int .i64 (n : Int), .slice A4 Q.length c4] 33))
      have B5 : Hid (Below w.heap.size w (v4.alloc (.cells #[.int .i64 (n : Int), .slice A4 Q.length c4] 33))) := B4.out.alloc B4.out.size _
      have P5 := Lib.hid ((P3b.out.below (below1 v4 (.cells #[.int .i64 (n : Int), .slice A4 Q.length c4] 33))).mono (below1 v4 (.cells #[.int .i64 (n : Int), .slice A4 Q.length c4] 33)).size)
      have S5 := Lib.hid ((P4.out.below (below1 v4 (.cells #[.int .i64 (n : Int), .slice A4 Q.length c4] 33))).mono (below1 v4 (.cells #[.int .i64 (n : Int), .slice A4 Q.length c4] 33)).size)
      generalize v4.alloc (.cells #[.int .i64 (n : Int), .slice A4 Q.length c4] 33) = v5 at *
      generalize v4.heap.size = yb at *
      obtain ⟨x0, x1, _⟩ := cells_two X5.out
      obtain ⟨y0, y1, _⟩ := cells_two Y5.out
      go_wp2_with (first
        | (go_at_call 30; ((with_reducible refine (csame_any (n : Int) Q _ _ _ _ _ _ _ P5.out S5.out (Nat.le_refl _) (Nat.le_refl _)).mono ?_); rintro e v6 ⟨rfl, hb⟩; have B6 := Lib.hid (B5.out.trans (hb.mono B5.out.size)); have X6 := Lib.hid (block_below X5.out hb); have P6 := Lib.hid ((P5.out.below hb).mono hb.size); clear x0 x1 y0 y1 hb; obtain ⟨x0, x1, _⟩ := cells_two X6.out))
        | (go_at_call 21; ((with_reducible refine (HCo.out _ _ _ P6.out).mono ?_); rintro e v7 ⟨rfl, hb⟩; have B7 := Lib.hid (B6.out.trans (hb.mono B6.out.size)); have X7 := Lib.hid (block_below X6.out hb); have P7 := Lib.hid ((P6.out.below hb).mono hb.size); clear x0 x1 hb; obtain ⟨x0, x1, _⟩ := cells_two X7.out))
        | (go_at_call 20; ((with_reducible refine (HOr.out _ _ _ P7.out).mono ?_); rintro e v8 ⟨rfl, hb⟩; have B8 := Lib.hid (B7.out.trans (hb.mono B7.out.size)); have X8 := Lib.hid (block_below X7.out hb); have P8 := Lib.hid ((P7.out.below hb).mono hb.size); clear x0 x1 hb; obtain ⟨x0, x1, _⟩ := cells_two X8.out))
        | (go_at_call 22; ((with_reducible refine (HEv.out _ _ _ P8.out).mono ?_); rintro e v9 ⟨rfl, hb⟩; have B9 := Lib.hid (B8.out.trans (hb.mono B8.out.size)); clear x0 x1 hb))
        | fail)
      go_ret
      exact ⟨by first | rfl | (simp; done) | (simp; omega), B9.out⟩
    · have e1 : (D == 1) = false := by rw [beq_eq_false_iff_ne]; exact h1
      rw [decide_eq_false h2] at HEv
      rw [if_neg h1] at HOr
      clear h1
      go_enter Try.func12, Try.ntmps12
      go_upto_region 4 with (first
        | (go_at_call 13; ((with_reducible refine (HA.out _).mono ?_); rintro e v1 ⟨rfl, hb⟩; have B1 := Lib.hid hb; clear hb))
        | (go_at_call 44; ((with_reducible refine (HQ.out _).mono ?_); rintro e v2 ⟨v, rfl, ho, hb⟩; obtain ⟨A2, c2, rfl, hr⟩ := own_rdz ho; have P2 := Lib.hid hr; have B2 := Lib.hid (B1.out.trans (hb.mono B1.out.size)); clear hb ho hr))
        | fail)
      have X3 := Lib.hid (heap_alloc_new v2 (.cells #[.int .i64 (n : Int), .slice A2 Q.length c2] 33))
      have B3 : Hid (Below w.heap.size w (v2.alloc (.cells #[.int .i64 (n : Int), .slice A2 Q.length c2] 33))) := B2.out.alloc B2.out.size _
      have P3 := Lib.hid ((P2.out.below (below1 v2 (.cells #[.int .i64 (n : Int), .slice A2 Q.length c2] 33))).mono (below1 v2 (.cells #[.int .i64 (n : Int), .slice A2 Q.length c2] 33)).size)
      generalize v2.alloc (.cells #[.int .i64 (n : Int), .slice A2 Q.length c2] 33) = v3 at *
      generalize v2.heap.size = xb at *
      go_upto_region 5 with (first
        | (go_at_call 45; ((with_reducible refine (HR.out _).mono ?_); rintro e v4 ⟨v, rfl, ho, hb⟩; obtain ⟨A4, c4, rfl, hr⟩ := own_rdz ho; have P4 := Lib.hid hr; have X4 := Lib.hid (block_below X3.out hb); have P3b := Lib.hid ((P3.out.below hb).mono hb.size); have B4 := Lib.hid (B3.out.trans (hb.mono B3.out.size)); clear hb ho hr))
        | fail)
      have Y5 := Lib.hid (heap_alloc_new v4 (.cells #[.int .i64 (n : Int), .slice A4 Q.length c4] 33))
      have X5 := Lib.hid (block_alloc X4.out (.cells #[.int .i64 (n : Int), .slice A4 Q.length c4] 33))
      have B5 : Hid (Below w.heap.size w (v4.alloc (.cells #[.int .i64 (n : Int), .slice A4 Q.length c4] 33))) := B4.out.alloc B4.out.size _
      have P5 := Lib.hid ((P3b.out.below (below1 v4 (.cells #[.int .i64 (n : Int), .slice A4 Q.length c4] 33))).mono (below1 v4 (.cells #[.int .i64 (n : Int), .slice A4 Q.length c4] 33)).size)
      have S5 := Lib.hid ((P4.out.below (below1 v4 (.cells #[.int .i64 (n : Int), .slice A4 Q.length c4] 33))).mono (below1 v4 (.cells #[.int .i64 (n : Int), .slice A4 Q.length c4] 33)).size)
      generalize v4.alloc (.cells #[.int .i64 (n : Int), .slice A4 Q.length c4] 33) = v5 at *
      generalize v4.heap.size = yb at *
      obtain ⟨x0, x1, _⟩ := cells_two X5.out
      obtain ⟨y0, y1, _⟩ := cells_two Y5.out
      go_wp2_with (first
        | (go_at_call 30; ((with_reducible refine (csame_any (n : Int) Q _ _ _ _ _ _ _ P5.out S5.out (Nat.le_refl _) (Nat.le_refl _)).mono ?_); rintro e v6 ⟨rfl, hb⟩; have B6 := Lib.hid (B5.out.trans (hb.mono B5.out.size)); have X6 := Lib.hid (block_below X5.out hb); have P6 := Lib.hid ((P5.out.below hb).mono hb.size); clear x0 x1 y0 y1 hb; obtain ⟨x0, x1, _⟩ := cells_two X6.out))
        | (go_at_call 21; ((with_reducible refine (HCo.out _ _ _ P6.out).mono ?_); rintro e v7 ⟨rfl, hb⟩; have B7 := Lib.hid (B6.out.trans (hb.mono B6.out.size)); have X7 := Lib.hid (block_below X6.out hb); have P7 := Lib.hid ((P6.out.below hb).mono hb.size); clear x0 x1 hb; obtain ⟨x0, x1, _⟩ := cells_two X7.out))
        | (go_at_call 20; ((with_reducible refine (HOr.out _ _ _ P7.out).mono ?_); rintro e v8 ⟨rfl, hb⟩; have B8 := Lib.hid (B7.out.trans (hb.mono B7.out.size)); have X8 := Lib.hid (block_below X7.out hb); have P8 := Lib.hid ((P7.out.below hb).mono hb.size); clear x0 x1 hb; obtain ⟨x0, x1, _⟩ := cells_two X8.out))
        | (go_at_call 22; ((with_reducible refine (HEv.out _ _ _ P8.out).mono ?_); rintro e v9 ⟨rfl, hb⟩; have B9 := Lib.hid (B8.out.trans (hb.mono B8.out.size)); clear x0 x1 hb))
        | fail)
      go_ret
      exact ⟨by first | rfl | (simp; done) | (simp; omega), B9.out⟩
  · have HQ := Lib.hid (fun W => dquad_bad D W h)
    have HR := Lib.hid (fun W => rquad_bad D W h)
    have hK : ((if -60 ≤ D ∧ D ≤ 60 ∧ D ≠ 0 then (15 : Int) else 2) != 0) = true := by split <;> rfl
    have HS : Hid (∀ W : World, Calls Try.prog 30 #[.agg #[.int .i64 0, .slice none 0 0], .agg #[.int .i64 0, .slice none 0 0]] W fun e w' => e = .returned (.bool true) ∧ Below W.heap.size W w') := fun W => by
      have hz : RdZ W 0 none 0 [] := ⟨by simp, by unfold maxLen; omega, fun h0 => by simp at h0, fun _ h0 => by cases h0⟩
      exact csame_any 0 [] none none 0 0 0 0 W hz hz (Nat.zero_le _) (Nat.zero_le _)
    clear h
    generalize (if -60 ≤ D ∧ D ≤ 60 ∧ D ≠ 0 then (15 : Int) else 2) = K at *
    go_enter Try.func12, Try.ntmps12
    go_upto_region 4 with (first
      | (go_at_call 13; ((with_reducible refine (HA.out _).mono ?_); rintro e v1 ⟨rfl, hb⟩; have B1 := Lib.hid hb; clear hb))
      | (go_at_call 44; ((with_reducible refine (HQ.out _).mono ?_); rintro e v2 ⟨rfl, hb⟩; have B2 := Lib.hid (B1.out.trans (hb.mono B1.out.size)); clear hb))
      | fail)
    have X3 := Lib.hid (heap_alloc_new v2 (.cells #[.int .i64 0, .slice none 0 0] 33))
    have B3 : Hid (Below w.heap.size w (v2.alloc (.cells #[.int .i64 0, .slice none 0 0] 33))) := B2.out.alloc B2.out.size _
    generalize v2.alloc (.cells #[.int .i64 0, .slice none 0 0] 33) = v3 at *
    generalize v2.heap.size = xb at *
    go_upto_region 5 with (first
      | (go_at_call 45; ((with_reducible refine (HR.out _).mono ?_); rintro e v4 ⟨rfl, hb⟩; have X4 := Lib.hid (block_below X3.out hb); have B4 := Lib.hid (B3.out.trans (hb.mono B3.out.size)); clear hb))
      | fail)
    have Y5 := Lib.hid (heap_alloc_new v4 (.cells #[.int .i64 0, .slice none 0 0] 33))
    have X5 := Lib.hid (block_alloc X4.out (.cells #[.int .i64 0, .slice none 0 0] 33))
    have B5 : Hid (Below w.heap.size w (v4.alloc (.cells #[.int .i64 0, .slice none 0 0] 33))) := B4.out.alloc B4.out.size _
    generalize v4.alloc (.cells #[.int .i64 0, .slice none 0 0] 33) = v5 at *
    generalize v4.heap.size = yb at *
    obtain ⟨x0, x1, _⟩ := cells_two X5.out
    obtain ⟨y0, y1, _⟩ := cells_two Y5.out
    go_wp2_with (first
      | (go_at_call 30; ((with_reducible refine (HS.out _).mono ?_); rintro e v6 ⟨rfl, hb⟩; have B6 := Lib.hid (B5.out.trans (hb.mono B5.out.size)); clear x0 x1 y0 y1 hb))
      | fail)
    go_ret
    exact ⟨by first | rfl | simp, B6.out⟩
end Go.Proofs.Ytlagljnhbhnelaa
namespace Go.Proofs.Ytlagljnhbhnelaa
open Go.RowKit
set_option linter.unusedVariables false
set_option linter.unusedSimpArgs false

theorem OW.on {B C tb : Nat} {w0 w2 w w1 : World} {n : Nat} {v : Value} {E : List Int} (h : OW B C tb w0 w2 n v E w) (hb : Below w.heap.size w w1) : OW B C tb w0 w2 n v E w1 :=
  ⟨h.tc, h.tB, Nat.le_trans h.size hb.size, block_below h.box hb, own_below h.own hb, fun j hj hn => (hb.block j (by have := h.size; omega)).trans (h.keep j hj hn), h.below.trans (hb.mono (by have h1 := h.tc; have h2 := h.tB; have h3 := h.size; omega))⟩
theorem OW.drew {B C tb : Nat} {w0 w2 w : World} {n : Nat} {v : Value} {E : List Int} (h : OW B C tb w0 w2 n v E w) : OW B C tb w0 w2 n v E w.drew := h.on (Below.refl _ _).drew
theorem OW.row {B C tb B2 c : Nat} {w0 w2 w : World} {n : Nat} {v : Value} {E L : List Int} {A : Option Addr} (h : OW B C tb w0 w2 n v E w) (hr : RdZ w2 B2 A c L) (hB : B2 ≤ tb) : RdZ w B2 A c L :=
  hr.keep fun b o hb => World.cell?_of_block (h.keep b (by have := h.tc; omega) (by omega))
theorem OW.blk {B C tb g : Nat} {w0 w2 w : World} {n : Nat} {v : Value} {E : List Int} {o : Obj} (h : OW B C tb w0 w2 n v E w) (hr : w2.heap[g]? = some o) (hg : g < tb) : w.heap[g]? = some o :=
  (h.keep g (by have := h.tc; omega) (by omega)).trans hr
/-- The exponents of a product and of a conjugate. -/
def mulX (G : List (Nat × Nat)) (E F : List Int) (i : Nat) : Int := (E.getD i 0 + F.getD i 0) % ((G.getD i (0, 0)).2 : Int)
def conX (G : List (Nat × Nat)) (E : List Int) (i : Nat) : Int := (((G.getD i (0, 0)).2 : Int) - E.getD i 0) % ((G.getD i (0, 0)).2 : Int)
def mulCE (n : Nat) (E F : List Int) : List Int := (List.range (gensV n).length).map (mulX (gensV n) E F)
def conE (n : Nat) (E : List Int) : List Int := (List.range (gensV n).length).map (conX (gensV n) E)
theorem rm_step {f : Nat → Int} (k : Nat) : (List.range (k + 1)).map f = (List.range k).map f ++ [f k] := by rw [List.range_succ, List.map_append]; rfl
theorem getDI (E : List Int) (k : Nat) (h : k < E.length) : E.getD k 0 = E[k] := by rw [List.getD_eq_getElem?_getD, List.getElem?_eq_getElem h]; rfl
theorem getDG (G : List (Nat × Nat)) (k : Nat) (h : k < G.length) : G.getD k (0, 0) = G[k] := by rw [List.getD_eq_getElem?_getD, List.getElem?_eq_getElem h]; rfl
set_option maxHeartbeats 6400000 in
set_option maxRecDepth 1000000 in
theorem rconj_any (n : Nat) (E : List Int) (A : Option Addr) (c : Nat) (w : World) (n1 : 1 ≤ n) (n2 : (n : Int) ≤ 60) (hE : RdZ w w.heap.size A c E) (hck : ckX n E = 0) :
    Calls Try.prog 39 #[.agg #[.int .i64 (n : Int), .slice A E.length c]] w fun e w' => ∃ v, e = .returned (.agg #[.int .i64 (n : Int), v]) ∧ w'.ownsRow w.heap.size 3 1 v (conE n E).length (zs (conE n E)) ∧ Below w.heap.size w w' := by
  obtain ⟨i0, hi0, z0, z1, z2⟩ := info_parts Try.infoIntC
  obtain ⟨hel, hex⟩ := ck_ok hck
  have HEl := Lib.hid hel
  have HEx := Lib.hid hex
  have HRg : Hid (∀ W : World, Calls Try.prog 16 #[.int .i64 (n : Int)] W fun e w' => ∃ A8 c8 A9 c9, e = .returned (.tuple #[.slice A8 (gensV n).length c8, .slice A9 (gensV n).length c9]) ∧ RdZ w' w'.heap.size A9 c9 (m2 (gensV n)) ∧ Below W.heap.size W w') := fun W => by
    refine (rgenr_any n W n1 n2).mono fun e w' ⟨v1, v2, he, h1, h2, hb⟩ => ?_
    obtain ⟨A8, c8, rfl, hr1⟩ := own_rdz h1
    obtain ⟨A9, c9, rfl, hr2⟩ := own_rdz h2
    rw [List.length_map, List.length_map] at he
    exact ⟨A8, c8, A9, c9, he, hr2, hb⟩
  have HLl : Hid ((m2 (gensV n)).length = (gensV n).length) := List.length_map ..
  have HMg : Hid (∀ k (h : k < (gensV n).length) (h2 : k < (m2 (gensV n)).length), (m2 (gensV n))[k] = (((gensV n)[k].2 : Nat) : Int)) := fun k h h2 => by simp [m2]
  have HGb := Lib.hid (gens_facts n1 (show n ≤ 60 by omega))
  have hgl := HGb.out.len
  have HL : Hid (conE n E = (List.range (gensV n).length).map (conX (gensV n) E)) := rfl
  have HE := Lib.hid hE
  have X0 : Hid (((w.alloc (.cells #[.int .i64 (n : Int), .slice A E.length c] 33)).alloc (.cells #[.int .i64 0, .slice none 0 0] 33)).heap[w.heap.size]? = some (.cells #[.int .i64 (n : Int), .slice A E.length c] 33 (0, 0))) := block_alloc (heap_alloc_new w _) _
  have R0 : Hid (((w.alloc (.cells #[.int .i64 (n : Int), .slice A E.length c] 33)).alloc (.cells #[.int .i64 0, .slice none 0 0] 33)).heap[w.heap.size + 1]? = some (.cells #[.int .i64 0, .slice none 0 0] 33 (0, 0))) := by
    have := heap_alloc_new (w.alloc (.cells #[.int .i64 (n : Int), .slice A E.length c] 33)) (.cells #[.int .i64 0, .slice none 0 0] 33)
    show _ = _; simpa using this
  have B0 : Hid (Below w.heap.size w ((w.alloc (.cells #[.int .i64 (n : Int), .slice A E.length c] 33)).alloc (.cells #[.int .i64 0, .slice none 0 0] 33))) := below2 w _ _
  obtain ⟨x0, x1, _⟩ := cells_two X0.out
  clear hE hck hel hex
  generalize conE n E = LL at *
  generalize gensV n = G at *
  go_enter Try.func39, Try.ntmps39
  go_upto_region 3 with (first
      | (go_at_call 16; ((with_reducible refine (HRg.out _).mono ?_); rintro e w2 ⟨A8, c8, A9, c9, rfl, hr, hb⟩; have X2 := Lib.hid (block_below X0.out hb); have R2 := Lib.hid (block_below R0.out hb); have B2 := Lib.hid (B0.out.trans (hb.mono B0.out.size)); have HR9 := Lib.hid hr; clear hr; clear hb x0 x1; obtain ⟨x0, x1, _⟩ := cells_two X2.out; skip))
      | fail)
  have hrl := lt_of_block R2.out
  obtain ⟨w3, hw3⟩ : ∃ w3, w3 = w2.alloc (.cells #[.int .i64 (n : Int), .slice none 0 0] 33) := ⟨_, rfl⟩
  have HO3 : Hid (OW w.heap.size (w2.heap.size + 1) w2.heap.size w w3 n (.slice none 0 0) [] w3) := by
    rw [hw3]
    exact ⟨by omega, B2.out.size, by simp, heap_alloc_new w2 _, World.ownsRow_nil _ _ _ _, fun _ _ _ => rfl, B2.out.alloc B2.out.size _⟩
  have hsz3 : w3.heap.size = w2.heap.size + 1 := by rw [hw3]; simp
  have X3 : Hid (w3.heap[w.heap.size]? = some (.cells #[.int .i64 (n : Int), .slice A E.length c] 33 (0, 0))) := by rw [hw3]; exact block_alloc X2.out _
  have R3 : Hid (w3.heap[w.heap.size + 1]? = some (.cells #[.int .i64 0, .slice none 0 0] 33 (0, 0))) := by rw [hw3]; exact block_alloc R2.out _
  have HR3 : Hid (RdZ w3 w2.heap.size A9 c9 (m2 G)) := by rw [hw3]; exact HR9.out.below (below1 w2 _)
  rw [← hw3]
  clear hw3 x0 x1
  generalize w2.heap.size = tb at *
  go_wp2
  go_loopw [6] (fun I wr => ∃ (k : Nat) (v : Value), I = .int .i64 (k : Int) ∧ k ≤ G.length ∧ Hid (OW w.heap.size (tb + 1) tb w w3 n v ((List.range k).map (conX G E)) wr)) (fun I _ => G.length - (intOf I).toNat)
  case atStart => exact ⟨0, _, rfl, Nat.zero_le _, HO3.out⟩
  case round =>
    clear HO3
    obtain ⟨k, v, rfl, hk, HO⟩ := hrel
    by_cases hkl : k < G.length
    · have hkli : (k : Int) < (G.length : Int) := by omega
      have hke : k < E.length := by have := HEl.out; omega
      have hkle : (k : Int) < (E.length : Int) := by omega
      have HOd := Lib.hid HO.out.drew
      have hsd := HOd.out.size
      obtain ⟨wd, hwd⟩ : ∃ wd, wd = wr.drew := ⟨_, rfl⟩
      rw [← hwd] at HOd hsd
      have hex := HEx.out k hke hkl
      have q1 := HGb.out.o1 _ (List.getElem_mem hkl)
      have q60 := HGb.out.o2 _ (List.getElem_mem hkl)
      obtain ⟨b1, o1, rfl, hb1, xx1⟩ := ((HE.out.below HOd.out.below)).at_ hke
      obtain ⟨b9, o9, rfl, hb9, xx9⟩ := (HOd.out.row HR3.out (Nat.le_refl _)).at_ (k := k) (by rw [HLl.out]; exact hkl)
      rw [HMg.out k hkl] at xx9
      have HN : Hid ((List.range (k + 1)).map (conX G E) = (List.range k).map (conX G E) ++ [((G[k].2 : Int) - E[k]) % (G[k].2 : Int)]) := by
        show _ = _
        rw [rm_step]; congr 1; unfold conX; rw [getDI E k hke, getDG G k hkl]
      have HTl : Hid (((List.range k).map (conX G E)).length = k) := by show _ = _; rw [List.length_map, List.length_range]
      generalize E[k] = x at *
      generalize G[k] = f at *
      obtain ⟨p, q⟩ := f
      simp only at hex q1 q60 xx9 HN
      generalize (List.range k).map (conX G E) = L at *
      have q0 : ((q : Int) == 0) = false := by rw [beq_eq_false_iff_ne]; omega
      have q0' : ¬ ((q : Int) = 0) := by omega
      have q0'' : ¬ (q = 0) := by omega
      have hz0 := Int.emod_nonneg ((q : Int) - x) q0'
      have hz1 := Int.emod_lt_of_pos ((q : Int) - x) (show 0 < (q : Int) by omega)
      have htm : Int.tmod ((q : Int) - x) (q : Int) = ((q : Int) - x) % (q : Int) := Int.tmod_eq_emod_of_nonneg (by omega)
      have hws : IntKind.i64.wrap ((q : Int) - x) = ((q : Int) - x) := IntWalk.i64_in _ (by omega)
      generalize ((q : Int) - x) % (q : Int) = z at *
      have hwz : IntKind.i64.wrap z = z := IntWalk.i64_in _ (by omega)
      have hCs : w.heap.size ≤ tb := HOd.out.tB
      have HHd : Hid (∀ W, Below wd.heap.size wd W → W.cell? ⟨tb, 1, none⟩ = some v ∧ W.cell? ⟨w.heap.size, 1, none⟩ = some (.slice (some ⟨b1, o1, none⟩) E.length c) ∧ W.cell? ⟨b1, o1 + k, none⟩ = some (.int .i64 x) ∧ W.cell? ⟨b9, o9 + k, none⟩ = some (.int .i64 (q : Int))) := fun W hW => ⟨(cells_two (block_below HOd.out.box hW)).2.1, (cells_two (block_below (HOd.out.blk X3.out (by omega)) hW)).2.1, (hW.cell (p := ⟨b1, o1 + k, none⟩) (by show b1 < wd.heap.size; omega)).trans xx1, (hW.cell (p := ⟨b9, o9 + k, none⟩) (by show b9 < wd.heap.size; omega)).trans xx9⟩
      have HTs := Lib.hid (show tb + 1 ≤ wd.heap.size from hsd)
      clear xx1 xx9
      go_upto_region 6 with fail
      refine region_E 18 (fun W => W.cell? ⟨tb, 1, none⟩ = some v ∧ W.cell? ⟨w.heap.size, 1, none⟩ = some (.slice (some ⟨b1, o1, none⟩) E.length c) ∧ W.cell? ⟨b1, o1 + k, none⟩ = some (.int .i64 x) ∧ W.cell? ⟨b9, o9 + k, none⟩ = some (.int .i64 (q : Int))) (by kernel_rfl) ?_
      rw [← hwd]
      clear hwd
      have hHeld := HHd.out wd (Below.refl _ _)
      refine take_E (n := 18) (i := 0) (v := ?vtt_0) rfl (by kernel_rfl) (fun _ _ _ h => h) ?hytt_0 (by rfl) hHeld ?resttt_0
      case hytt_0 => (intro w9 hSw; (try dsimp only at hSw); go_simp <;> with_reducible rfl)
      (try simp only [List.getElem_toArray, List.getElem_cons_zero, List.getElem_cons_succ, Act.put, List.setIfInBounds_toArray, List.set_cons_zero, List.set_cons_succ])
      refine take_E (n := 18) (i := 1) (v := ?vtt_1) rfl (by kernel_rfl) (fun _ _ _ h => h) ?hytt_1 (by rfl) hHeld ?resttt_1
      case hytt_1 => (intro w9 hSw; (try dsimp only at hSw); go_simp <;> with_reducible rfl)
      (try simp only [List.getElem_toArray, List.getElem_cons_zero, List.getElem_cons_succ, Act.put, List.setIfInBounds_toArray, List.set_cons_zero, List.set_cons_succ])
      refine take_E (n := 18) (i := 2) (v := ?vtt_2) rfl (by kernel_rfl) (fun _ _ _ h => h) ?hytt_2 (by rfl) hHeld ?resttt_2
      case hytt_2 => (intro w9 hSw; (try dsimp only at hSw); go_simp <;> with_reducible rfl)
      (try simp only [List.getElem_toArray, List.getElem_cons_zero, List.getElem_cons_succ, Act.put, List.setIfInBounds_toArray, List.set_cons_zero, List.set_cons_succ])
      refine take_E (n := 18) (i := 3) (v := ?vtt_3) rfl (by kernel_rfl) (fun _ _ _ h => h) ?hytt_3 (by rfl) hHeld ?resttt_3
      case hytt_3 => (intro w9 hSw; (try dsimp only at hSw); go_simp <;> with_reducible rfl)
      (try simp only [List.getElem_toArray, List.getElem_cons_zero, List.getElem_cons_succ, Act.put, List.setIfInBounds_toArray, List.set_cons_zero, List.set_cons_succ])
      refine take_E (n := 18) (i := 4) (v := ?vtt_4) rfl (by kernel_rfl) (fun _ _ _ h => h) ?hytt_4 (by rfl) hHeld ?resttt_4
      case hytt_4 => (intro w9 hSw; (try dsimp only at hSw); go_simp <;> with_reducible rfl)
      (try simp only [List.getElem_toArray, List.getElem_cons_zero, List.getElem_cons_succ, Act.put, List.setIfInBounds_toArray, List.set_cons_zero, List.set_cons_succ])
      refine take_E (n := 18) (i := 5) (v := ?vtt_5) rfl (by kernel_rfl) (fun _ _ _ h => h) ?hytt_5 (by rfl) hHeld ?resttt_5
      case hytt_5 => (intro w9 hSw; (try dsimp only at hSw); go_simp <;> with_reducible rfl)
      (try simp only [List.getElem_toArray, List.getElem_cons_zero, List.getElem_cons_succ, Act.put, List.setIfInBounds_toArray, List.set_cons_zero, List.set_cons_succ])
      refine take_E (n := 18) (i := 6) (v := ?vtt_6) rfl (by kernel_rfl) (fun _ _ _ h => h) ?hytt_6 (by rfl) hHeld ?resttt_6
      case hytt_6 => (intro w9 hSw; (try dsimp only at hSw); go_simp <;> with_reducible rfl)
      (try simp only [List.getElem_toArray, List.getElem_cons_zero, List.getElem_cons_succ, Act.put, List.setIfInBounds_toArray, List.set_cons_zero, List.set_cons_succ])
      refine take_E (n := 18) (i := 7) (v := ?vtt_7) rfl (by kernel_rfl) (fun _ _ _ h => h) ?hytt_7 (by rfl) hHeld ?resttt_7
      case hytt_7 => (intro w9 hSw; (try dsimp only at hSw); go_simp <;> with_reducible rfl)
      (try simp only [List.getElem_toArray, List.getElem_cons_zero, List.getElem_cons_succ, Act.put, List.setIfInBounds_toArray, List.set_cons_zero, List.set_cons_succ])
      refine take_E (n := 18) (i := 8) (v := ?vtt_8) rfl (by kernel_rfl) (fun _ _ _ h => h) ?hytt_8 (by rfl) hHeld ?resttt_8
      case hytt_8 => (intro w9 hSw; (try dsimp only at hSw); go_simp <;> with_reducible rfl)
      (try simp only [List.getElem_toArray, List.getElem_cons_zero, List.getElem_cons_succ, Act.put, List.setIfInBounds_toArray, List.set_cons_zero, List.set_cons_succ])
      refine take_E (n := 18) (i := 9) (v := ?vtt_9) rfl (by kernel_rfl) (fun _ _ _ h => h) ?hytt_9 (by rfl) hHeld ?resttt_9
      case hytt_9 => (intro w9 hSw; (try dsimp only at hSw); go_simp <;> with_reducible rfl)
      (try simp only [List.getElem_toArray, List.getElem_cons_zero, List.getElem_cons_succ, Act.put, List.setIfInBounds_toArray, List.set_cons_zero, List.set_cons_succ])
      refine take_E (n := 18) (i := 10) (v := ?vtt_10) rfl (by kernel_rfl) (fun _ _ _ h => h) ?hytt_10 (by rfl) hHeld ?resttt_10
      case hytt_10 => (intro w9 hSw; (try dsimp only at hSw); go_simp <;> with_reducible rfl)
      (try simp only [List.getElem_toArray, List.getElem_cons_zero, List.getElem_cons_succ, Act.put, List.setIfInBounds_toArray, List.set_cons_zero, List.set_cons_succ])
      refine take_E (n := 18) (i := 11) (v := ?vtt_11) rfl (by kernel_rfl) (fun _ _ _ h => h) ?hytt_11 (by rfl) hHeld ?resttt_11
      case hytt_11 => (intro w9 hSw; (try dsimp only at hSw); go_simp <;> with_reducible rfl)
      (try simp only [List.getElem_toArray, List.getElem_cons_zero, List.getElem_cons_succ, Act.put, List.setIfInBounds_toArray, List.set_cons_zero, List.set_cons_succ])
      refine take_E (n := 18) (i := 12) (v := ?vtt_12) rfl (by kernel_rfl) (fun _ _ _ h => h) ?hytt_12 (by rfl) hHeld ?resttt_12
      case hytt_12 => (intro w9 hSw; (try dsimp only at hSw); go_simp <;> with_reducible rfl)
      (try simp only [List.getElem_toArray, List.getElem_cons_zero, List.getElem_cons_succ, Act.put, List.setIfInBounds_toArray, List.set_cons_zero, List.set_cons_succ])
      refine take_E (n := 18) (i := 13) (v := ?vtt_13) rfl (by kernel_rfl) (fun _ _ _ h => h) ?hytt_13 (by rfl) hHeld ?resttt_13
      case hytt_13 => (intro w9 hSw; (try dsimp only at hSw); go_simp <;> with_reducible rfl)
      (try simp only [List.getElem_toArray, List.getElem_cons_zero, List.getElem_cons_succ, Act.put, List.setIfInBounds_toArray, List.set_cons_zero, List.set_cons_succ])
      refine take_E (n := 18) (i := 14) (v := ?vtt_14) rfl (by kernel_rfl) (fun _ _ _ h => h) ?hytt_14 (by rfl) hHeld ?resttt_14
      case hytt_14 => (intro w9 hSw; (try dsimp only at hSw); go_simp <;> with_reducible rfl)
      (try simp only [List.getElem_toArray, List.getElem_cons_zero, List.getElem_cons_succ, Act.put, List.setIfInBounds_toArray, List.set_cons_zero, List.set_cons_succ])
      refine take_E (n := 18) (i := 15) (v := ?vtt_15) rfl (by kernel_rfl) (fun _ _ _ h => h) ?hytt_15 (by rfl) hHeld ?resttt_15
      case hytt_15 => (intro w9 hSw; (try dsimp only at hSw); go_simp <;> with_reducible rfl)
      (try simp only [List.getElem_toArray, List.getElem_cons_zero, List.getElem_cons_succ, Act.put, List.setIfInBounds_toArray, List.set_cons_zero, List.set_cons_succ])
      refine take_E (n := 18) (i := 16) (v := ?vtt_16) rfl (by kernel_rfl) (fun _ _ _ h => h) ?hytt_16 (by rfl) hHeld ?resttt_16
      case hytt_16 => (intro w9 hSw; (try dsimp only at hSw); go_simp <;> with_reducible rfl)
      (try simp only [List.getElem_toArray, List.getElem_cons_zero, List.getElem_cons_succ, Act.put, List.setIfInBounds_toArray, List.set_cons_zero, List.set_cons_succ])
      refine one_E (n := 18) (i := 17) (by kernel_rfl) rfl (fun K hK => ?_)
      go_simp
      refine hK.out _ _ (fun _ => HHd.out _ (below1 wd _)) (fun hHeld8 => ?_)
      clear hK K
      (try simp only [List.getElem_toArray, List.getElem_cons_zero, List.getElem_cons_succ, Act.put, List.setIfInBounds_toArray, List.set_cons_zero, List.set_cons_succ])
      refine one_E (n := 18) (i := 18) (by kernel_rfl) rfl (fun K hK => ?_)
      refine step_append_lies _ (by rfl) _ _ _ (by rfl) (tb + 1) 3 i0 _ 1 8 Try.underlying23 hi0 z0 z1 z2 rfl (by omega) v k (zs L) (by rfl) (own_below (by have := HOd.out.own; rw [HTl.out] at this; exact this) (below1 wd _)) ⟨wd.heap.size, 0, none⟩ 1 1 [.int .i64 z] (by rfl) (by rfl) (World.news_of_block (cs := #[.int .i64 z]) (t := 3) (fr := (0, 0)) (heap_alloc_new wd _)) (by simp [Value.oneCell']) (by omega) (by unfold maxLen; omega) (by omega) (by have := HOd.out.size; simp; omega) (wd.heap.size + 1) (by simp) ?_
      intro gg cap' p2 hown2 hgrow hat hlt3
      obtain ⟨hbx, hxn⟩ := HOd.out.push (by rw [HTl.out]; exact hown2) hgrow
      have HXn := Lib.hid hxn
      obtain ⟨e1, e2, ef⟩ := cells_two hbx
      clear hown2 hgrow hat hxn hbx
      refine hK.out _ _ (fun h => absurd h (by decide)) (fun hHeld9 => ?_)
      clear hK K
      (try simp only [List.getElem_toArray, List.getElem_cons_zero, List.getElem_cons_succ, Act.put, List.setIfInBounds_toArray, List.set_cons_zero, List.set_cons_succ])
      refine one_E (n := 18) (i := 19) (by kernel_rfl) rfl (fun K hK => ?_)
      go_simp
      refine hK.out _ _ (fun h => absurd h (by decide)) (fun hHeld10 => ?_)
      clear hK K
      (try simp only [List.getElem_toArray, List.getElem_cons_zero, List.getElem_cons_succ, Act.put, List.setIfInBounds_toArray, List.set_cons_zero, List.set_cons_succ])
      refine one_E (n := 18) (i := 20) (by kernel_rfl) rfl (fun K hK => ?_)
      go_simp
      refine hK.out _ _ (fun h => absurd h (by decide)) (fun hHeld10 => ?_)
      clear hK K
      (try simp only [List.getElem_toArray, List.getElem_cons_zero, List.getElem_cons_succ, Act.put, List.setIfInBounds_toArray, List.set_cons_zero, List.set_cons_succ])
      refine done_E (by kernel_rfl) ?_ _
      go_wp2
      go_roundw
      case rel => exact ⟨k + 1, _, by go_num, by omega, by rw [HN.out]; exact HXn.out⟩
      case measure => simp [intOf]; omega
    · obtain rfl : k = G.length := by omega
      have hk3 : ¬ (G.length : Int) < (G.length : Int) := by omega
      rw [← HL.out] at HO
      obtain ⟨A0, l0, c0, rfl⟩ := ownsRow_slice HO.out.own
      obtain ⟨z1', z2', zf⟩ := cells_two HO.out.box
      have hCs : w.heap.size ≤ tb := HO.out.tB
      have hr0 := HO.out.blk R3.out (by omega)
      obtain ⟨r0, r1, rf⟩ := cells_two hr0
      have R4 := Lib.hid (two_setC hr0 (.int .i64 (n : Int)) (.slice A0 l0 c0))
      obtain ⟨s0, s1, sf⟩ := cells_two R4.out
      have HOf := Lib.hid (own_base (show w.heap.size ≤ tb + 1 by omega) (ownsRow_setCell_below (ownsRow_setCell_below HO.out.own (a := ⟨w.heap.size + 1, 0, none⟩) (by show w.heap.size + 1 < tb + 1; omega) (.int .i64 (n : Int))) (a := ⟨w.heap.size + 1, 1, none⟩) (by show w.heap.size + 1 < tb + 1; omega) (.slice A0 l0 c0)))
      have HBf := Lib.hid ((HO.out.below.setCell (p := ⟨w.heap.size + 1, 0, none⟩) (by show w.heap.size ≤ w.heap.size + 1; omega) (.int .i64 (n : Int))).setCell (p := ⟨w.heap.size + 1, 1, none⟩) (by show w.heap.size ≤ w.heap.size + 1; omega) (.slice A0 l0 c0))
      clear hr0
      go_wp2
      refine bodyPost_ret (v := .agg #[.int .i64 (n : Int), .slice A0 l0 c0]) ?_ rfl ⟨_, rfl, HOf.out, HBf.out⟩
      simp [results, Try.results39, go_sem, s0, s1]
set_option maxHeartbeats 6400000 in
set_option maxRecDepth 1000000 in
theorem rmulc_any (n : Nat) (E F : List Int) (A A2 : Option Addr) (c c2 : Nat) (w : World) (n1 : 1 ≤ n) (n2 : (n : Int) ≤ 60) (hE : RdZ w w.heap.size A c E) (hF : RdZ w w.heap.size A2 c2 F) (hck : ckX n E = 0) (hck2 : ckX n F = 0) :
    Calls Try.prog 40 #[.agg #[.int .i64 (n : Int), .slice A E.length c], .agg #[.int .i64 (n : Int), .slice A2 F.length c2]] w fun e w' => ∃ v, e = .returned (.agg #[.int .i64 (n : Int), v]) ∧ w'.ownsRow w.heap.size 3 1 v (mulCE n E F).length (zs (mulCE n E F)) ∧ Below w.heap.size w w' := by
  obtain ⟨i0, hi0, z0, z1, z2⟩ := info_parts Try.infoIntC
  obtain ⟨hel, hex⟩ := ck_ok hck
  have HEl := Lib.hid hel
  have HEx := Lib.hid hex
  obtain ⟨hfl, hfx⟩ := ck_ok hck2
  have HFl := Lib.hid hfl
  have HFx := Lib.hid hfx
  have HRg : Hid (∀ W : World, Calls Try.prog 16 #[.int .i64 (n : Int)] W fun e w' => ∃ A8 c8 A9 c9, e = .returned (.tuple #[.slice A8 (gensV n).length c8, .slice A9 (gensV n).length c9]) ∧ RdZ w' w'.heap.size A9 c9 (m2 (gensV n)) ∧ Below W.heap.size W w') := fun W => by
    refine (rgenr_any n W n1 n2).mono fun e w' ⟨v1, v2, he, h1, h2, hb⟩ => ?_
    obtain ⟨A8, c8, rfl, hr1⟩ := own_rdz h1
    obtain ⟨A9, c9, rfl, hr2⟩ := own_rdz h2
    rw [List.length_map, List.length_map] at he
    exact ⟨A8, c8, A9, c9, he, hr2, hb⟩
  have HLl : Hid ((m2 (gensV n)).length = (gensV n).length) := List.length_map ..
  have HMg : Hid (∀ k (h : k < (gensV n).length) (h2 : k < (m2 (gensV n)).length), (m2 (gensV n))[k] = (((gensV n)[k].2 : Nat) : Int)) := fun k h h2 => by simp [m2]
  have HGb := Lib.hid (gens_facts n1 (show n ≤ 60 by omega))
  have hgl := HGb.out.len
  have HL : Hid (mulCE n E F = (List.range (gensV n).length).map (mulX (gensV n) E F)) := rfl
  have HE := Lib.hid hE
  have HF := Lib.hid hF
  have X0 : Hid ((((w.alloc (.cells #[.int .i64 (n : Int), .slice A E.length c] 33)).alloc (.cells #[.int .i64 (n : Int), .slice A2 F.length c2] 33)).alloc (.cells #[.int .i64 0, .slice none 0 0] 33)).heap[w.heap.size]? = some (.cells #[.int .i64 (n : Int), .slice A E.length c] 33 (0, 0))) := block_alloc (block_alloc (heap_alloc_new w _) _) _
  have Y0 : Hid ((((w.alloc (.cells #[.int .i64 (n : Int), .slice A E.length c] 33)).alloc (.cells #[.int .i64 (n : Int), .slice A2 F.length c2] 33)).alloc (.cells #[.int .i64 0, .slice none 0 0] 33)).heap[w.heap.size + 1]? = some (.cells #[.int .i64 (n : Int), .slice A2 F.length c2] 33 (0, 0))) := by
    have := heap_alloc_new (w.alloc (.cells #[.int .i64 (n : Int), .slice A E.length c] 33)) (.cells #[.int .i64 (n : Int), .slice A2 F.length c2] 33)
    refine block_alloc ?_ _
    simpa using this
  have R0 : Hid ((((w.alloc (.cells #[.int .i64 (n : Int), .slice A E.length c] 33)).alloc (.cells #[.int .i64 (n : Int), .slice A2 F.length c2] 33)).alloc (.cells #[.int .i64 0, .slice none 0 0] 33)).heap[w.heap.size + 2]? = some (.cells #[.int .i64 0, .slice none 0 0] 33 (0, 0))) := by
    have := heap_alloc_new ((w.alloc (.cells #[.int .i64 (n : Int), .slice A E.length c] 33)).alloc (.cells #[.int .i64 (n : Int), .slice A2 F.length c2] 33)) (.cells #[.int .i64 0, .slice none 0 0] 33)
    show _ = _; simpa using this
  have B0 : Hid (Below w.heap.size w (((w.alloc (.cells #[.int .i64 (n : Int), .slice A E.length c] 33)).alloc (.cells #[.int .i64 (n : Int), .slice A2 F.length c2] 33)).alloc (.cells #[.int .i64 0, .slice none 0 0] 33))) := (below2 w _ _).alloc (by simp; omega) _
  obtain ⟨x0, x1, _⟩ := cells_two X0.out
  obtain ⟨y0, y1, _⟩ := cells_two Y0.out
  clear hE hck hel hex hF hck2 hfl hfx
  generalize mulCE n E F = LL at *
  generalize gensV n = G at *
  go_enter Try.func40, Try.ntmps40
  go_upto_region 3 with (first
      | (go_at_call 16; ((with_reducible refine (HRg.out _).mono ?_); rintro e w2 ⟨A8, c8, A9, c9, rfl, hr, hb⟩; have X2 := Lib.hid (block_below X0.out hb); have R2 := Lib.hid (block_below R0.out hb); have B2 := Lib.hid (B0.out.trans (hb.mono B0.out.size)); have Y2 := Lib.hid (block_below Y0.out hb); have HR9 := Lib.hid hr; clear hr; clear hb x0 x1 y0 y1; obtain ⟨x0, x1, _⟩ := cells_two X2.out; obtain ⟨y0, y1, _⟩ := cells_two Y2.out; skip))
      | fail)
  have hrl := lt_of_block R2.out
  obtain ⟨w3, hw3⟩ : ∃ w3, w3 = w2.alloc (.cells #[.int .i64 (n : Int), .slice none 0 0] 33) := ⟨_, rfl⟩
  have HO3 : Hid (OW w.heap.size (w2.heap.size + 1) w2.heap.size w w3 n (.slice none 0 0) [] w3) := by
    rw [hw3]
    exact ⟨by omega, B2.out.size, by simp, heap_alloc_new w2 _, World.ownsRow_nil _ _ _ _, fun _ _ _ => rfl, B2.out.alloc B2.out.size _⟩
  have hsz3 : w3.heap.size = w2.heap.size + 1 := by rw [hw3]; simp
  have X3 : Hid (w3.heap[w.heap.size]? = some (.cells #[.int .i64 (n : Int), .slice A E.length c] 33 (0, 0))) := by rw [hw3]; exact block_alloc X2.out _
  have R3 : Hid (w3.heap[w.heap.size + 2]? = some (.cells #[.int .i64 0, .slice none 0 0] 33 (0, 0))) := by rw [hw3]; exact block_alloc R2.out _
  have Y3 : Hid (w3.heap[w.heap.size + 1]? = some (.cells #[.int .i64 (n : Int), .slice A2 F.length c2] 33 (0, 0))) := by rw [hw3]; exact block_alloc Y2.out _
  have HR3 : Hid (RdZ w3 w2.heap.size A9 c9 (m2 G)) := by rw [hw3]; exact HR9.out.below (below1 w2 _)
  rw [← hw3]
  clear hw3 x0 x1 y0 y1
  generalize w2.heap.size = tb at *
  go_wp2
  go_loopw [8] (fun I wr => ∃ (k : Nat) (v : Value), I = .int .i64 (k : Int) ∧ k ≤ G.length ∧ Hid (OW w.heap.size (tb + 1) tb w w3 n v ((List.range k).map (mulX G E F)) wr)) (fun I _ => G.length - (intOf I).toNat)
  case atStart => exact ⟨0, _, rfl, Nat.zero_le _, HO3.out⟩
  case round =>
    clear HO3
    obtain ⟨k, v, rfl, hk, HO⟩ := hrel
    by_cases hkl : k < G.length
    · have hkli : (k : Int) < (G.length : Int) := by omega
      have hke : k < E.length := by have := HEl.out; omega
      have hkle : (k : Int) < (E.length : Int) := by omega
      have HOd := Lib.hid HO.out.drew
      have hkf : k < F.length := by have := HFl.out; omega
      have hkfe : (k : Int) < (F.length : Int) := by omega
      have hsd := HOd.out.size
      obtain ⟨wd, hwd⟩ : ∃ wd, wd = wr.drew := ⟨_, rfl⟩
      rw [← hwd] at HOd hsd
      have hex := HEx.out k hke hkl
      have hfx := HFx.out k hkf hkl
      have q1 := HGb.out.o1 _ (List.getElem_mem hkl)
      have q60 := HGb.out.o2 _ (List.getElem_mem hkl)
      obtain ⟨b1, o1, rfl, hb1, xx1⟩ := ((HE.out.below HOd.out.below)).at_ hke
      obtain ⟨b2, o2, rfl, hb2, xx2⟩ := ((HF.out.below HOd.out.below)).at_ hkf
      obtain ⟨b9, o9, rfl, hb9, xx9⟩ := (HOd.out.row HR3.out (Nat.le_refl _)).at_ (k := k) (by rw [HLl.out]; exact hkl)
      rw [HMg.out k hkl] at xx9
      have HN : Hid ((List.range (k + 1)).map (mulX G E F) = (List.range k).map (mulX G E F) ++ [(E[k] + F[k]) % (G[k].2 : Int)]) := by
        show _ = _
        rw [rm_step]; congr 1; unfold mulX; rw [getDI F k hkf, getDI E k hke, getDG G k hkl]
      have HTl : Hid (((List.range k).map (mulX G E F)).length = k) := by show _ = _; rw [List.length_map, List.length_range]
      generalize E[k] = x at *
      generalize F[k] = y at *
      generalize G[k] = f at *
      obtain ⟨p, q⟩ := f
      simp only at hex q1 q60 xx9 HN hfx
      generalize (List.range k).map (mulX G E F) = L at *
      have q0 : ((q : Int) == 0) = false := by rw [beq_eq_false_iff_ne]; omega
      have q0' : ¬ ((q : Int) = 0) := by omega
      have q0'' : ¬ (q = 0) := by omega
      have hz0 := Int.emod_nonneg (x + y) q0'
      have hz1 := Int.emod_lt_of_pos (x + y) (show 0 < (q : Int) by omega)
      have htm : Int.tmod (x + y) (q : Int) = (x + y) % (q : Int) := Int.tmod_eq_emod_of_nonneg (by omega)
      have hws : IntKind.i64.wrap (x + y) = (x + y) := IntWalk.i64_in _ (by omega)
      generalize (x + y) % (q : Int) = z at *
      have hwz : IntKind.i64.wrap z = z := IntWalk.i64_in _ (by omega)
      have hCs : w.heap.size ≤ tb := HOd.out.tB
      have HHd : Hid (∀ W, Below wd.heap.size wd W → W.cell? ⟨tb, 1, none⟩ = some v ∧ W.cell? ⟨w.heap.size, 1, none⟩ = some (.slice (some ⟨b1, o1, none⟩) E.length c) ∧ W.cell? ⟨b1, o1 + k, none⟩ = some (.int .i64 x) ∧ W.cell? ⟨b9, o9 + k, none⟩ = some (.int .i64 (q : Int)) ∧ W.cell? ⟨w.heap.size + 1, 1, none⟩ = some (.slice (some ⟨b2, o2, none⟩) F.length c2) ∧ W.cell? ⟨b2, o2 + k, none⟩ = some (.int .i64 y)) := fun W hW => ⟨(cells_two (block_below HOd.out.box hW)).2.1, (cells_two (block_below (HOd.out.blk X3.out (by omega)) hW)).2.1, (hW.cell (p := ⟨b1, o1 + k, none⟩) (by show b1 < wd.heap.size; omega)).trans xx1, (hW.cell (p := ⟨b9, o9 + k, none⟩) (by show b9 < wd.heap.size; omega)).trans xx9, (cells_two (block_below (HOd.out.blk Y3.out (by omega)) hW)).2.1, (hW.cell (p := ⟨b2, o2 + k, none⟩) (by show b2 < wd.heap.size; omega)).trans xx2⟩
      have HTs := Lib.hid (show tb + 1 ≤ wd.heap.size from hsd)
      clear xx1 xx9 xx2
      go_upto_region 6 with fail
      refine region_E 19 (fun W => W.cell? ⟨tb, 1, none⟩ = some v ∧ W.cell? ⟨w.heap.size, 1, none⟩ = some (.slice (some ⟨b1, o1, none⟩) E.length c) ∧ W.cell? ⟨b1, o1 + k, none⟩ = some (.int .i64 x) ∧ W.cell? ⟨b9, o9 + k, none⟩ = some (.int .i64 (q : Int)) ∧ W.cell? ⟨w.heap.size + 1, 1, none⟩ = some (.slice (some ⟨b2, o2, none⟩) F.length c2) ∧ W.cell? ⟨b2, o2 + k, none⟩ = some (.int .i64 y)) (by kernel_rfl) ?_
      rw [← hwd]
      clear hwd
      have hHeld := HHd.out wd (Below.refl _ _)
      refine take_E (n := 19) (i := 0) (v := ?vtt_0) rfl (by kernel_rfl) (fun _ _ _ h => h) ?hytt_0 (by rfl) hHeld ?resttt_0
      case hytt_0 => (intro w9 hSw; (try dsimp only at hSw); go_simp <;> with_reducible rfl)
      (try simp only [List.getElem_toArray, List.getElem_cons_zero, List.getElem_cons_succ, Act.put, List.setIfInBounds_toArray, List.set_cons_zero, List.set_cons_succ])
      refine take_E (n := 19) (i := 1) (v := ?vtt_1) rfl (by kernel_rfl) (fun _ _ _ h => h) ?hytt_1 (by rfl) hHeld ?resttt_1
      case hytt_1 => (intro w9 hSw; (try dsimp only at hSw); go_simp <;> with_reducible rfl)
      (try simp only [List.getElem_toArray, List.getElem_cons_zero, List.getElem_cons_succ, Act.put, List.setIfInBounds_toArray, List.set_cons_zero, List.set_cons_succ])
      refine take_E (n := 19) (i := 2) (v := ?vtt_2) rfl (by kernel_rfl) (fun _ _ _ h => h) ?hytt_2 (by rfl) hHeld ?resttt_2
      case hytt_2 => (intro w9 hSw; (try dsimp only at hSw); go_simp <;> with_reducible rfl)
      (try simp only [List.getElem_toArray, List.getElem_cons_zero, List.getElem_cons_succ, Act.put, List.setIfInBounds_toArray, List.set_cons_zero, List.set_cons_succ])
      refine take_E (n := 19) (i := 3) (v := ?vtt_3) rfl (by kernel_rfl) (fun _ _ _ h => h) ?hytt_3 (by rfl) hHeld ?resttt_3
      case hytt_3 => (intro w9 hSw; (try dsimp only at hSw); go_simp <;> with_reducible rfl)
      (try simp only [List.getElem_toArray, List.getElem_cons_zero, List.getElem_cons_succ, Act.put, List.setIfInBounds_toArray, List.set_cons_zero, List.set_cons_succ])
      refine take_E (n := 19) (i := 4) (v := ?vtt_4) rfl (by kernel_rfl) (fun _ _ _ h => h) ?hytt_4 (by rfl) hHeld ?resttt_4
      case hytt_4 => (intro w9 hSw; (try dsimp only at hSw); go_simp <;> with_reducible rfl)
      (try simp only [List.getElem_toArray, List.getElem_cons_zero, List.getElem_cons_succ, Act.put, List.setIfInBounds_toArray, List.set_cons_zero, List.set_cons_succ])
      refine take_E (n := 19) (i := 5) (v := ?vtt_5) rfl (by kernel_rfl) (fun _ _ _ h => h) ?hytt_5 (by rfl) hHeld ?resttt_5
      case hytt_5 => (intro w9 hSw; (try dsimp only at hSw); go_simp <;> with_reducible rfl)
      (try simp only [List.getElem_toArray, List.getElem_cons_zero, List.getElem_cons_succ, Act.put, List.setIfInBounds_toArray, List.set_cons_zero, List.set_cons_succ])
      refine take_E (n := 19) (i := 6) (v := ?vtt_6) rfl (by kernel_rfl) (fun _ _ _ h => h) ?hytt_6 (by rfl) hHeld ?resttt_6
      case hytt_6 => (intro w9 hSw; (try dsimp only at hSw); go_simp <;> with_reducible rfl)
      (try simp only [List.getElem_toArray, List.getElem_cons_zero, List.getElem_cons_succ, Act.put, List.setIfInBounds_toArray, List.set_cons_zero, List.set_cons_succ])
      refine take_E (n := 19) (i := 7) (v := ?vtt_7) rfl (by kernel_rfl) (fun _ _ _ h => h) ?hytt_7 (by rfl) hHeld ?resttt_7
      case hytt_7 => (intro w9 hSw; (try dsimp only at hSw); go_simp <;> with_reducible rfl)
      (try simp only [List.getElem_toArray, List.getElem_cons_zero, List.getElem_cons_succ, Act.put, List.setIfInBounds_toArray, List.set_cons_zero, List.set_cons_succ])
      refine take_E (n := 19) (i := 8) (v := ?vtt_8) rfl (by kernel_rfl) (fun _ _ _ h => h) ?hytt_8 (by rfl) hHeld ?resttt_8
      case hytt_8 => (intro w9 hSw; (try dsimp only at hSw); go_simp <;> with_reducible rfl)
      (try simp only [List.getElem_toArray, List.getElem_cons_zero, List.getElem_cons_succ, Act.put, List.setIfInBounds_toArray, List.set_cons_zero, List.set_cons_succ])
      refine take_E (n := 19) (i := 9) (v := ?vtt_9) rfl (by kernel_rfl) (fun _ _ _ h => h) ?hytt_9 (by rfl) hHeld ?resttt_9
      case hytt_9 => (intro w9 hSw; (try dsimp only at hSw); go_simp <;> with_reducible rfl)
      (try simp only [List.getElem_toArray, List.getElem_cons_zero, List.getElem_cons_succ, Act.put, List.setIfInBounds_toArray, List.set_cons_zero, List.set_cons_succ])
      refine take_E (n := 19) (i := 10) (v := ?vtt_10) rfl (by kernel_rfl) (fun _ _ _ h => h) ?hytt_10 (by rfl) hHeld ?resttt_10
      case hytt_10 => (intro w9 hSw; (try dsimp only at hSw); go_simp <;> with_reducible rfl)
      (try simp only [List.getElem_toArray, List.getElem_cons_zero, List.getElem_cons_succ, Act.put, List.setIfInBounds_toArray, List.set_cons_zero, List.set_cons_succ])
      refine take_E (n := 19) (i := 11) (v := ?vtt_11) rfl (by kernel_rfl) (fun _ _ _ h => h) ?hytt_11 (by rfl) hHeld ?resttt_11
      case hytt_11 => (intro w9 hSw; (try dsimp only at hSw); go_simp <;> with_reducible rfl)
      (try simp only [List.getElem_toArray, List.getElem_cons_zero, List.getElem_cons_succ, Act.put, List.setIfInBounds_toArray, List.set_cons_zero, List.set_cons_succ])
      refine take_E (n := 19) (i := 12) (v := ?vtt_12) rfl (by kernel_rfl) (fun _ _ _ h => h) ?hytt_12 (by rfl) hHeld ?resttt_12
      case hytt_12 => (intro w9 hSw; (try dsimp only at hSw); go_simp <;> with_reducible rfl)
      (try simp only [List.getElem_toArray, List.getElem_cons_zero, List.getElem_cons_succ, Act.put, List.setIfInBounds_toArray, List.set_cons_zero, List.set_cons_succ])
      refine take_E (n := 19) (i := 13) (v := ?vtt_13) rfl (by kernel_rfl) (fun _ _ _ h => h) ?hytt_13 (by rfl) hHeld ?resttt_13
      case hytt_13 => (intro w9 hSw; (try dsimp only at hSw); go_simp <;> with_reducible rfl)
      (try simp only [List.getElem_toArray, List.getElem_cons_zero, List.getElem_cons_succ, Act.put, List.setIfInBounds_toArray, List.set_cons_zero, List.set_cons_succ])
      refine take_E (n := 19) (i := 14) (v := ?vtt_14) rfl (by kernel_rfl) (fun _ _ _ h => h) ?hytt_14 (by rfl) hHeld ?resttt_14
      case hytt_14 => (intro w9 hSw; (try dsimp only at hSw); go_simp <;> with_reducible rfl)
      (try simp only [List.getElem_toArray, List.getElem_cons_zero, List.getElem_cons_succ, Act.put, List.setIfInBounds_toArray, List.set_cons_zero, List.set_cons_succ])
      refine take_E (n := 19) (i := 15) (v := ?vtt_15) rfl (by kernel_rfl) (fun _ _ _ h => h) ?hytt_15 (by rfl) hHeld ?resttt_15
      case hytt_15 => (intro w9 hSw; (try dsimp only at hSw); go_simp <;> with_reducible rfl)
      (try simp only [List.getElem_toArray, List.getElem_cons_zero, List.getElem_cons_succ, Act.put, List.setIfInBounds_toArray, List.set_cons_zero, List.set_cons_succ])
      refine take_E (n := 19) (i := 16) (v := ?vtt_16) rfl (by kernel_rfl) (fun _ _ _ h => h) ?hytt_16 (by rfl) hHeld ?resttt_16
      case hytt_16 => (intro w9 hSw; (try dsimp only at hSw); go_simp <;> with_reducible rfl)
      (try simp only [List.getElem_toArray, List.getElem_cons_zero, List.getElem_cons_succ, Act.put, List.setIfInBounds_toArray, List.set_cons_zero, List.set_cons_succ])
      refine take_E (n := 19) (i := 17) (v := ?vtt_17) rfl (by kernel_rfl) (fun _ _ _ h => h) ?hytt_17 (by rfl) hHeld ?resttt_17
      case hytt_17 => (intro w9 hSw; (try dsimp only at hSw); go_simp <;> with_reducible rfl)
      (try simp only [List.getElem_toArray, List.getElem_cons_zero, List.getElem_cons_succ, Act.put, List.setIfInBounds_toArray, List.set_cons_zero, List.set_cons_succ])
      refine one_E (n := 19) (i := 18) (by kernel_rfl) rfl (fun K hK => ?_)
      go_simp
      refine hK.out _ _ (fun _ => HHd.out _ (below1 wd _)) (fun hHeld8 => ?_)
      clear hK K
      (try simp only [List.getElem_toArray, List.getElem_cons_zero, List.getElem_cons_succ, Act.put, List.setIfInBounds_toArray, List.set_cons_zero, List.set_cons_succ])
      refine one_E (n := 19) (i := 19) (by kernel_rfl) rfl (fun K hK => ?_)
      refine step_append_lies _ (by rfl) _ _ _ (by rfl) (tb + 1) 3 i0 _ 1 8 Try.underlying23 hi0 z0 z1 z2 rfl (by omega) v k (zs L) (by rfl) (own_below (by have := HOd.out.own; rw [HTl.out] at this; exact this) (below1 wd _)) ⟨wd.heap.size, 0, none⟩ 1 1 [.int .i64 z] (by rfl) (by rfl) (World.news_of_block (cs := #[.int .i64 z]) (t := 3) (fr := (0, 0)) (heap_alloc_new wd _)) (by simp [Value.oneCell']) (by omega) (by unfold maxLen; omega) (by omega) (by have := HOd.out.size; simp; omega) (wd.heap.size + 1) (by simp) ?_
      intro gg cap' p2 hown2 hgrow hat hlt3
      obtain ⟨hbx, hxn⟩ := HOd.out.push (by rw [HTl.out]; exact hown2) hgrow
      have HXn := Lib.hid hxn
      obtain ⟨e1, e2, ef⟩ := cells_two hbx
      clear hown2 hgrow hat hxn hbx
      refine hK.out _ _ (fun h => absurd h (by decide)) (fun hHeld9 => ?_)
      clear hK K
      (try simp only [List.getElem_toArray, List.getElem_cons_zero, List.getElem_cons_succ, Act.put, List.setIfInBounds_toArray, List.set_cons_zero, List.set_cons_succ])
      refine one_E (n := 19) (i := 20) (by kernel_rfl) rfl (fun K hK => ?_)
      go_simp
      refine hK.out _ _ (fun h => absurd h (by decide)) (fun hHeld10 => ?_)
      clear hK K
      (try simp only [List.getElem_toArray, List.getElem_cons_zero, List.getElem_cons_succ, Act.put, List.setIfInBounds_toArray, List.set_cons_zero, List.set_cons_succ])
      refine one_E (n := 19) (i := 21) (by kernel_rfl) rfl (fun K hK => ?_)
      go_simp
      refine hK.out _ _ (fun h => absurd h (by decide)) (fun hHeld10 => ?_)
      clear hK K
      (try simp only [List.getElem_toArray, List.getElem_cons_zero, List.getElem_cons_succ, Act.put, List.setIfInBounds_toArray, List.set_cons_zero, List.set_cons_succ])
      refine done_E (by kernel_rfl) ?_ _
      go_wp2
      go_roundw
      case rel => exact ⟨k + 1, _, by go_num, by omega, by rw [HN.out]; exact HXn.out⟩
      case measure => simp [intOf]; omega
    · obtain rfl : k = G.length := by omega
      have hk3 : ¬ (G.length : Int) < (G.length : Int) := by omega
      rw [← HL.out] at HO
      obtain ⟨A0, l0, c0, rfl⟩ := ownsRow_slice HO.out.own
      obtain ⟨z1', z2', zf⟩ := cells_two HO.out.box
      have hCs : w.heap.size ≤ tb := HO.out.tB
      have hr0 := HO.out.blk R3.out (by omega)
      obtain ⟨r0, r1, rf⟩ := cells_two hr0
      have R4 := Lib.hid (two_setC hr0 (.int .i64 (n : Int)) (.slice A0 l0 c0))
      obtain ⟨s0, s1, sf⟩ := cells_two R4.out
      have HOf := Lib.hid (own_base (show w.heap.size ≤ tb + 1 by omega) (ownsRow_setCell_below (ownsRow_setCell_below HO.out.own (a := ⟨w.heap.size + 2, 0, none⟩) (by show w.heap.size + 2 < tb + 1; omega) (.int .i64 (n : Int))) (a := ⟨w.heap.size + 2, 1, none⟩) (by show w.heap.size + 2 < tb + 1; omega) (.slice A0 l0 c0)))
      have HBf := Lib.hid ((HO.out.below.setCell (p := ⟨w.heap.size + 2, 0, none⟩) (by show w.heap.size ≤ w.heap.size + 2; omega) (.int .i64 (n : Int))).setCell (p := ⟨w.heap.size + 2, 1, none⟩) (by show w.heap.size ≤ w.heap.size + 2; omega) (.slice A0 l0 c0))
      clear hr0
      go_wp2
      refine bodyPost_ret (v := .agg #[.int .i64 (n : Int), .slice A0 l0 c0]) ?_ rfl ⟨_, rfl, HOf.out, HBf.out⟩
      simp [results, Try.results40, go_sem, s0, s1]
set_option maxHeartbeats 6400000 in
set_option maxRecDepth 1000000 in
theorem pconj_any (n : Nat) (E : List Int) (A : Option Addr) (c : Nat) (w : World) (n1 : 1 ≤ n) (n2 : (n : Int) ≤ 60) (hE : RdZ w w.heap.size A c E) (hck : ckX n E = 0) :
    Calls Try.prog 38 #[.agg #[.int .i64 (n : Int), .slice A E.length c]] w fun e w' => ∃ v, e = .returned (.tuple #[.agg #[.int .i64 (n : Int), v], .int .i64 0]) ∧ w'.ownsRow w.heap.size 3 1 v (conE n E).length (zs (conE n E)) ∧ Below w.heap.size w w' := by
  obtain ⟨i0, hi0, z0, z1, z2⟩ := info_parts Try.infoIntC
  obtain ⟨hel, hex⟩ := ck_ok hck
  have HEl := Lib.hid hel
  have HEx := Lib.hid hex
  have HGe := Lib.hid (fun W => gens_any n W n1 n2)
  have HCk := Lib.hid (fun (W : World) (h : RdZ W W.heap.size A c E) => dck_any n E A c W n1 n2 h)
  rw [hck] at HCk
  have HGb := Lib.hid (gens_facts n1 (show n ≤ 60 by omega))
  have hgl := HGb.out.len
  have HL : Hid (conE n E = (List.range (gensV n).length).map (conX (gensV n) E)) := rfl
  have HE := Lib.hid hE
  have X0 : Hid (((w.alloc (.cells #[.int .i64 (n : Int), .slice A E.length c] 33)).alloc (.cells #[.int .i64 0, .slice none 0 0] 33)).heap[w.heap.size]? = some (.cells #[.int .i64 (n : Int), .slice A E.length c] 33 (0, 0))) := block_alloc (heap_alloc_new w _) _
  have R0 : Hid (((w.alloc (.cells #[.int .i64 (n : Int), .slice A E.length c] 33)).alloc (.cells #[.int .i64 0, .slice none 0 0] 33)).heap[w.heap.size + 1]? = some (.cells #[.int .i64 0, .slice none 0 0] 33 (0, 0))) := by
    have := heap_alloc_new (w.alloc (.cells #[.int .i64 (n : Int), .slice A E.length c] 33)) (.cells #[.int .i64 0, .slice none 0 0] 33)
    show _ = _; simpa using this
  have B0 : Hid (Below w.heap.size w ((w.alloc (.cells #[.int .i64 (n : Int), .slice A E.length c] 33)).alloc (.cells #[.int .i64 0, .slice none 0 0] 33))) := below2 w _ _
  obtain ⟨x0, x1, _⟩ := cells_two X0.out
  clear hE hck hel hex
  generalize conE n E = LL at *
  generalize gensV n = G at *
  go_enter Try.func38, Try.ntmps38
  go_upto_region 5 with (first
      | (go_at_call 24; ((with_reducible refine (HCk.out _ ((HE.out.below B0.out).mono B0.out.size)).mono ?_); rintro e w1 ⟨rfl, hb⟩; have X1 := Lib.hid (block_below X0.out hb); have R1 := Lib.hid (block_below R0.out hb); have B1 := Lib.hid (B0.out.trans (hb.mono B0.out.size)); clear hb x0 x1; obtain ⟨x0, x1, _⟩ := cells_two X1.out; skip))
      | fail)
  have hrl := lt_of_block R1.out
  obtain ⟨w3, hw3⟩ : ∃ w3, w3 = w1.alloc (.cells #[.int .i64 (n : Int), .slice none 0 0] 33) := ⟨_, rfl⟩
  have HO3 : Hid (OW w.heap.size (w1.heap.size + 1) w1.heap.size w w3 n (.slice none 0 0) [] w3) := by
    rw [hw3]
    exact ⟨by omega, B1.out.size, by simp, heap_alloc_new w1 _, World.ownsRow_nil _ _ _ _, fun _ _ _ => rfl, B1.out.alloc B1.out.size _⟩
  have hsz3 : w3.heap.size = w1.heap.size + 1 := by rw [hw3]; simp
  have X3 : Hid (w3.heap[w.heap.size]? = some (.cells #[.int .i64 (n : Int), .slice A E.length c] 33 (0, 0))) := by rw [hw3]; exact block_alloc X1.out _
  have R3 : Hid (w3.heap[w.heap.size + 1]? = some (.cells #[.int .i64 0, .slice none 0 0] 33 (0, 0))) := by rw [hw3]; exact block_alloc R1.out _
  rw [← hw3]
  clear hw3 x0 x1
  generalize w1.heap.size = tb at *
  obtain ⟨x0, x1, _⟩ := cells_two X3.out
  go_upto_region 6 with (first
      | (go_at_call 47; ((with_reducible refine (HGe.out _).mono ?_); rintro e w4 ⟨v4, rfl, ho, hb⟩; obtain ⟨la, lc, rfl, hrd⟩ := gen_blk ho; have HR := Lib.hid hrd; have HKp : Hid (∀ j, j < tb + 1 → w4.heap[j]? = w3.heap[j]?) := (fun j hj => hb.block j (by omega)); have hs4 := hb.size; have HB4 := Lib.hid hb; have HO4 := Lib.hid (HO3.out.on hb); clear ho hrd hb x0 x1))
      | fail)
  have hbx4 := HO4.out.box
  have htb4 := HO4.out.size
  have htB := HO4.out.tB
  have HO5 : Hid (OW w.heap.size w4.heap.size tb w w4 n (.slice none 0 0) [] w4) := ⟨by omega, HO4.out.tB, Nat.le_refl _, HO4.out.box, World.ownsRow_nil _ _ _ _, fun _ _ _ => rfl, HO4.out.below⟩
  have X5 := Lib.hid (block_below X3.out HB4.out)
  have R5 := Lib.hid (block_below R3.out HB4.out)
  have HBx : Hid (w4.heap[tb]? = some (.cells #[.int .i64 (n : Int), .slice none 0 0] 33 (0, 0))) := hbx4
  clear HO4 HO3 HKp hbx4
  go_loopw [6, 7, 21] (fun _ _ I wr => ∃ (k : Nat) (v : Value), I = .int .i64 (k : Int) ∧ k ≤ G.length ∧ Hid (OW w.heap.size w4.heap.size tb w w4 n v ((List.range k).map (conX G E)) wr)) (fun _ _ I _ => G.length - (intOf I).toNat)
  case atStart => exact ⟨0, _, rfl, Nat.zero_le _, HO5.out⟩
  case round =>
    clear HO5
    obtain ⟨k, v, rfl, hk, HO⟩ := hrel
    by_cases hkl : k < G.length
    · have hkli : (k : Int) < (G.length : Int) := by omega
      have hke : k < E.length := by have := HEl.out; omega
      have hkle : (k : Int) < (E.length : Int) := by omega
      obtain ⟨g, cs, rfl, hg1, hcell⟩ := HR.out k hkl
      obtain ⟨gx1, gx2⟩ := hcell wr ((HO.out.keep g (lt_of_block hg1) (blk_ne HBx.out hg1 (by decide))).trans hg1)
      have hex := HEx.out k hke hkl
      have q1 := HGb.out.o1 _ (List.getElem_mem hkl)
      have q60 := HGb.out.o2 _ (List.getElem_mem hkl)
      have HN : Hid ((List.range (k + 1)).map (conX G E) = (List.range k).map (conX G E) ++ [((G[k].2 : Int) - E[k]) % (G[k].2 : Int)]) := by
        show _ = _
        rw [rm_step]; congr 1; unfold conX; rw [getDI E k hke, getDG G k hkl]
      have HTl : Hid (((List.range k).map (conX G E)).length = k) := by show _ = _; rw [List.length_map, List.length_range]
      have HEk : Hid (∀ W, Below w.heap.size w W → ∃ b o, A = some ⟨b, o, none⟩ ∧ b < w.heap.size ∧ W.cell? ⟨b, o + k, none⟩ = some (.int .i64 E[k])) := fun W hW => (HE.out.below hW).at_ hke
      clear hg1 hcell
      generalize E[k] = x at *
      generalize G[k] = f at *
      obtain ⟨p, q⟩ := f
      simp only at hex q1 q60 gx1 gx2 HN 
      generalize (List.range k).map (conX G E) = L at *
      have q0 : ((q : Int) == 0) = false := by rw [beq_eq_false_iff_ne]; omega
      have q0' : ¬ ((q : Int) = 0) := by omega
      have q0'' : ¬ (q = 0) := by omega
      have hz0 := Int.emod_nonneg ((q : Int) - x) q0'
      have hz1 := Int.emod_lt_of_pos ((q : Int) - x) (show 0 < (q : Int) by omega)
      have htm : Int.tmod ((q : Int) - x) (q : Int) = ((q : Int) - x) % (q : Int) := Int.tmod_eq_emod_of_nonneg (by omega)
      have hws : IntKind.i64.wrap ((q : Int) - x) = ((q : Int) - x) := IntWalk.i64_in _ (by omega)
      generalize ((q : Int) - x) % (q : Int) = z at *
      have hwz : IntKind.i64.wrap z = z := IntWalk.i64_in _ (by omega)
      go_upto_region 8 with fail
      have HOd := Lib.hid (HO.out.on (below1 wr (.cells #[.int .i64 (p : Int), .int .i64 (q : Int)] 73))).drew
      have HGd : Hid ((wr.alloc (.cells #[.int .i64 (p : Int), .int .i64 (q : Int)] 73)).drew.heap[wr.heap.size]? = some (.cells #[.int .i64 (p : Int), .int .i64 (q : Int)] 73 (0, 0))) := heap_alloc_new wr _
      clear gx1 gx2 HO
      obtain ⟨wd, hwd⟩ : ∃ wd, wd = (wr.alloc (.cells #[.int .i64 (p : Int), .int .i64 (q : Int)] 73)).drew := ⟨_, rfl⟩
      rw [← hwd] at HOd HGd
      generalize hgbe : wr.heap.size = gb at *
      clear hgbe
      obtain ⟨b1, o1, rfl, hb1, xx1⟩ := HEk.out wd HOd.out.below
      have hsd := HOd.out.size
      have HHd : Hid (∀ W, Below wd.heap.size wd W → W.cell? ⟨tb, 1, none⟩ = some v ∧ W.cell? ⟨w.heap.size, 1, none⟩ = some (.slice (some ⟨b1, o1, none⟩) E.length c) ∧ W.cell? ⟨b1, o1 + k, none⟩ = some (.int .i64 x) ∧ W.cell? ⟨gb, 1, none⟩ = some (.int .i64 (q : Int))) := fun W hW => ⟨(cells_two (block_below HOd.out.box hW)).2.1, (cells_two (block_below (HOd.out.blk X5.out (by omega)) hW)).2.1, (hW.cell (p := ⟨b1, o1 + k, none⟩) (by show b1 < wd.heap.size; omega)).trans xx1, (cells_two (block_below HGd.out hW)).2.1⟩
      clear xx1 
      refine region_E 14 (fun W => W.cell? ⟨tb, 1, none⟩ = some v ∧ W.cell? ⟨w.heap.size, 1, none⟩ = some (.slice (some ⟨b1, o1, none⟩) E.length c) ∧ W.cell? ⟨b1, o1 + k, none⟩ = some (.int .i64 x) ∧ W.cell? ⟨gb, 1, none⟩ = some (.int .i64 (q : Int))) (by kernel_rfl) ?_
      rw [← hwd]
      clear hwd
      have hHeld := HHd.out wd (Below.refl _ _)
      refine take_E (n := 14) (i := 0) (v := ?vtt_0) rfl (by kernel_rfl) (fun _ _ _ h => h) ?hytt_0 (by rfl) hHeld ?resttt_0
      case hytt_0 => (intro w9 hSw; (try dsimp only at hSw); go_simp <;> with_reducible rfl)
      (try simp only [List.getElem_toArray, List.getElem_cons_zero, List.getElem_cons_succ, Act.put, List.setIfInBounds_toArray, List.set_cons_zero, List.set_cons_succ])
      refine take_E (n := 14) (i := 1) (v := ?vtt_1) rfl (by kernel_rfl) (fun _ _ _ h => h) ?hytt_1 (by rfl) hHeld ?resttt_1
      case hytt_1 => (intro w9 hSw; (try dsimp only at hSw); go_simp <;> with_reducible rfl)
      (try simp only [List.getElem_toArray, List.getElem_cons_zero, List.getElem_cons_succ, Act.put, List.setIfInBounds_toArray, List.set_cons_zero, List.set_cons_succ])
      refine take_E (n := 14) (i := 2) (v := ?vtt_2) rfl (by kernel_rfl) (fun _ _ _ h => h) ?hytt_2 (by rfl) hHeld ?resttt_2
      case hytt_2 => (intro w9 hSw; (try dsimp only at hSw); go_simp <;> with_reducible rfl)
      (try simp only [List.getElem_toArray, List.getElem_cons_zero, List.getElem_cons_succ, Act.put, List.setIfInBounds_toArray, List.set_cons_zero, List.set_cons_succ])
      refine take_E (n := 14) (i := 3) (v := ?vtt_3) rfl (by kernel_rfl) (fun _ _ _ h => h) ?hytt_3 (by rfl) hHeld ?resttt_3
      case hytt_3 => (intro w9 hSw; (try dsimp only at hSw); go_simp <;> with_reducible rfl)
      (try simp only [List.getElem_toArray, List.getElem_cons_zero, List.getElem_cons_succ, Act.put, List.setIfInBounds_toArray, List.set_cons_zero, List.set_cons_succ])
      refine take_E (n := 14) (i := 4) (v := ?vtt_4) rfl (by kernel_rfl) (fun _ _ _ h => h) ?hytt_4 (by rfl) hHeld ?resttt_4
      case hytt_4 => (intro w9 hSw; (try dsimp only at hSw); go_simp <;> with_reducible rfl)
      (try simp only [List.getElem_toArray, List.getElem_cons_zero, List.getElem_cons_succ, Act.put, List.setIfInBounds_toArray, List.set_cons_zero, List.set_cons_succ])
      refine take_E (n := 14) (i := 5) (v := ?vtt_5) rfl (by kernel_rfl) (fun _ _ _ h => h) ?hytt_5 (by rfl) hHeld ?resttt_5
      case hytt_5 => (intro w9 hSw; (try dsimp only at hSw); go_simp <;> with_reducible rfl)
      (try simp only [List.getElem_toArray, List.getElem_cons_zero, List.getElem_cons_succ, Act.put, List.setIfInBounds_toArray, List.set_cons_zero, List.set_cons_succ])
      refine take_E (n := 14) (i := 6) (v := ?vtt_6) rfl (by kernel_rfl) (fun _ _ _ h => h) ?hytt_6 (by rfl) hHeld ?resttt_6
      case hytt_6 => (intro w9 hSw; (try dsimp only at hSw); go_simp <;> with_reducible rfl)
      (try simp only [List.getElem_toArray, List.getElem_cons_zero, List.getElem_cons_succ, Act.put, List.setIfInBounds_toArray, List.set_cons_zero, List.set_cons_succ])
      refine take_E (n := 14) (i := 7) (v := ?vtt_7) rfl (by kernel_rfl) (fun _ _ _ h => h) ?hytt_7 (by rfl) hHeld ?resttt_7
      case hytt_7 => (intro w9 hSw; (try dsimp only at hSw); go_simp <;> with_reducible rfl)
      (try simp only [List.getElem_toArray, List.getElem_cons_zero, List.getElem_cons_succ, Act.put, List.setIfInBounds_toArray, List.set_cons_zero, List.set_cons_succ])
      refine take_E (n := 14) (i := 8) (v := ?vtt_8) rfl (by kernel_rfl) (fun _ _ _ h => h) ?hytt_8 (by rfl) hHeld ?resttt_8
      case hytt_8 => (intro w9 hSw; (try dsimp only at hSw); go_simp <;> with_reducible rfl)
      (try simp only [List.getElem_toArray, List.getElem_cons_zero, List.getElem_cons_succ, Act.put, List.setIfInBounds_toArray, List.set_cons_zero, List.set_cons_succ])
      refine take_E (n := 14) (i := 9) (v := ?vtt_9) rfl (by kernel_rfl) (fun _ _ _ h => h) ?hytt_9 (by rfl) hHeld ?resttt_9
      case hytt_9 => (intro w9 hSw; (try dsimp only at hSw); go_simp <;> with_reducible rfl)
      (try simp only [List.getElem_toArray, List.getElem_cons_zero, List.getElem_cons_succ, Act.put, List.setIfInBounds_toArray, List.set_cons_zero, List.set_cons_succ])
      refine take_E (n := 14) (i := 10) (v := ?vtt_10) rfl (by kernel_rfl) (fun _ _ _ h => h) ?hytt_10 (by rfl) hHeld ?resttt_10
      case hytt_10 => (intro w9 hSw; (try dsimp only at hSw); go_simp <;> with_reducible rfl)
      (try simp only [List.getElem_toArray, List.getElem_cons_zero, List.getElem_cons_succ, Act.put, List.setIfInBounds_toArray, List.set_cons_zero, List.set_cons_succ])
      refine take_E (n := 14) (i := 11) (v := ?vtt_11) rfl (by kernel_rfl) (fun _ _ _ h => h) ?hytt_11 (by rfl) hHeld ?resttt_11
      case hytt_11 => (intro w9 hSw; (try dsimp only at hSw); go_simp <;> with_reducible rfl)
      (try simp only [List.getElem_toArray, List.getElem_cons_zero, List.getElem_cons_succ, Act.put, List.setIfInBounds_toArray, List.set_cons_zero, List.set_cons_succ])
      refine take_E (n := 14) (i := 12) (v := ?vtt_12) rfl (by kernel_rfl) (fun _ _ _ h => h) ?hytt_12 (by rfl) hHeld ?resttt_12
      case hytt_12 => (intro w9 hSw; (try dsimp only at hSw); go_simp <;> with_reducible rfl)
      (try simp only [List.getElem_toArray, List.getElem_cons_zero, List.getElem_cons_succ, Act.put, List.setIfInBounds_toArray, List.set_cons_zero, List.set_cons_succ])
      refine one_E (n := 14) (i := 13) (by kernel_rfl) rfl (fun K hK => ?_)
      go_simp
      refine hK.out _ _ (fun _ => HHd.out _ (below1 wd _)) (fun hHeld8 => ?_)
      clear hK K
      (try simp only [List.getElem_toArray, List.getElem_cons_zero, List.getElem_cons_succ, Act.put, List.setIfInBounds_toArray, List.set_cons_zero, List.set_cons_succ])
      refine one_E (n := 14) (i := 14) (by kernel_rfl) rfl (fun K hK => ?_)
      refine step_append_lies _ (by rfl) _ _ _ (by rfl) w4.heap.size 3 i0 _ 1 8 Try.underlying23 hi0 z0 z1 z2 rfl (by omega) v k (zs L) (by rfl) (own_below (by have := HOd.out.own; rw [HTl.out] at this; exact this) (below1 wd _)) ⟨wd.heap.size, 0, none⟩ 1 1 [.int .i64 z] (by rfl) (by rfl) (World.news_of_block (cs := #[.int .i64 z]) (t := 3) (fr := (0, 0)) (heap_alloc_new wd _)) (by simp [Value.oneCell']) (by omega) (by unfold maxLen; omega) (by omega) (by have := HOd.out.size; simp; omega) (wd.heap.size + 1) (by simp) ?_
      intro gg cap' p2 hown2 hgrow hat hlt3
      obtain ⟨hbx, hxn⟩ := HOd.out.push (by rw [HTl.out]; exact hown2) hgrow
      have HXn := Lib.hid hxn
      obtain ⟨e1, e2, ef⟩ := cells_two hbx
      clear hown2 hgrow hat hxn hbx
      refine hK.out _ _ (fun h => absurd h (by decide)) (fun hHeld9 => ?_)
      clear hK K
      (try simp only [List.getElem_toArray, List.getElem_cons_zero, List.getElem_cons_succ, Act.put, List.setIfInBounds_toArray, List.set_cons_zero, List.set_cons_succ])
      refine one_E (n := 14) (i := 15) (by kernel_rfl) rfl (fun K hK => ?_)
      go_simp
      refine hK.out _ _ (fun h => absurd h (by decide)) (fun hHeld10 => ?_)
      clear hK K
      (try simp only [List.getElem_toArray, List.getElem_cons_zero, List.getElem_cons_succ, Act.put, List.setIfInBounds_toArray, List.set_cons_zero, List.set_cons_succ])
      refine one_E (n := 14) (i := 16) (by kernel_rfl) rfl (fun K hK => ?_)
      go_simp
      refine hK.out _ _ (fun h => absurd h (by decide)) (fun hHeld10 => ?_)
      clear hK K
      (try simp only [List.getElem_toArray, List.getElem_cons_zero, List.getElem_cons_succ, Act.put, List.setIfInBounds_toArray, List.set_cons_zero, List.set_cons_succ])
      refine done_E (by kernel_rfl) ?_ _
      go_wp2
      go_roundw
      case rel => exact ⟨k + 1, _, by go_num, by omega, by rw [HN.out]; exact HXn.out⟩
      case measure => simp [intOf]; omega
    · obtain rfl : k = G.length := by omega
      have hk3 : ¬ (G.length : Int) < (G.length : Int) := by omega
      rw [← HL.out] at HO
      obtain ⟨A0, l0, c0, rfl⟩ := ownsRow_slice HO.out.own
      obtain ⟨z1', z2', zf⟩ := cells_two HO.out.box
      have hr0 := HO.out.blk R5.out (by omega)
      obtain ⟨r0, r1, rf⟩ := cells_two hr0
      have R6 := Lib.hid (two_setC hr0 (.int .i64 (n : Int)) (.slice A0 l0 c0))
      obtain ⟨s0, s1, sf⟩ := cells_two R6.out
      have HOf := Lib.hid (own_base (show w.heap.size ≤ w4.heap.size by omega) (ownsRow_setCell_below (ownsRow_setCell_below HO.out.own (a := ⟨w.heap.size + 1, 0, none⟩) (by show w.heap.size + 1 < w4.heap.size; omega) (.int .i64 (n : Int))) (a := ⟨w.heap.size + 1, 1, none⟩) (by show w.heap.size + 1 < w4.heap.size; omega) (.slice A0 l0 c0)))
      have HBf := Lib.hid ((HO.out.below.setCell (p := ⟨w.heap.size + 1, 0, none⟩) (by show w.heap.size ≤ w.heap.size + 1; omega) (.int .i64 (n : Int))).setCell (p := ⟨w.heap.size + 1, 1, none⟩) (by show w.heap.size ≤ w.heap.size + 1; omega) (.slice A0 l0 c0))
      clear hr0
      go_wp2
      refine bodyPost_ret (v := .tuple #[.agg #[.int .i64 (n : Int), .slice A0 l0 c0], .int .i64 0]) ?_ rfl ⟨_, rfl, HOf.out, HBf.out⟩
      simp [results, Try.results38, go_sem, s0, s1]
set_option maxHeartbeats 6400000 in
set_option maxRecDepth 1000000 in
theorem pmulc_any (n : Nat) (E F : List Int) (A A2 : Option Addr) (c c2 : Nat) (w : World) (n1 : 1 ≤ n) (n2 : (n : Int) ≤ 60) (hE : RdZ w w.heap.size A c E) (hF : RdZ w w.heap.size A2 c2 F) (hck : ckX n E = 0) (hck2 : ckX n F = 0) :
    Calls Try.prog 37 #[.agg #[.int .i64 (n : Int), .slice A E.length c], .agg #[.int .i64 (n : Int), .slice A2 F.length c2]] w fun e w' => ∃ v, e = .returned (.tuple #[.agg #[.int .i64 (n : Int), v], .int .i64 0]) ∧ w'.ownsRow w.heap.size 3 1 v (mulCE n E F).length (zs (mulCE n E F)) ∧ Below w.heap.size w w' := by
  obtain ⟨i0, hi0, z0, z1, z2⟩ := info_parts Try.infoIntC
  obtain ⟨hel, hex⟩ := ck_ok hck
  have HEl := Lib.hid hel
  have HEx := Lib.hid hex
  obtain ⟨hfl, hfx⟩ := ck_ok hck2
  have HFl := Lib.hid hfl
  have HFx := Lib.hid hfx
  have HGe := Lib.hid (fun W => gens_any n W n1 n2)
  have HCk := Lib.hid (fun (W : World) (h : RdZ W W.heap.size A c E) => dck_any n E A c W n1 n2 h)
  rw [hck] at HCk
  have HCf := Lib.hid (fun (W : World) (h : RdZ W W.heap.size A2 c2 F) => dck_any n F A2 c2 W n1 n2 h)
  rw [hck2] at HCf
  have HGb := Lib.hid (gens_facts n1 (show n ≤ 60 by omega))
  have hgl := HGb.out.len
  have HL : Hid (mulCE n E F = (List.range (gensV n).length).map (mulX (gensV n) E F)) := rfl
  have HE := Lib.hid hE
  have HF := Lib.hid hF
  have X0 : Hid ((((w.alloc (.cells #[.int .i64 (n : Int), .slice A E.length c] 33)).alloc (.cells #[.int .i64 (n : Int), .slice A2 F.length c2] 33)).alloc (.cells #[.int .i64 0, .slice none 0 0] 33)).heap[w.heap.size]? = some (.cells #[.int .i64 (n : Int), .slice A E.length c] 33 (0, 0))) := block_alloc (block_alloc (heap_alloc_new w _) _) _
  have Y0 : Hid ((((w.alloc (.cells #[.int .i64 (n : Int), .slice A E.length c] 33)).alloc (.cells #[.int .i64 (n : Int), .slice A2 F.length c2] 33)).alloc (.cells #[.int .i64 0, .slice none 0 0] 33)).heap[w.heap.size + 1]? = some (.cells #[.int .i64 (n : Int), .slice A2 F.length c2] 33 (0, 0))) := by
    have := heap_alloc_new (w.alloc (.cells #[.int .i64 (n : Int), .slice A E.length c] 33)) (.cells #[.int .i64 (n : Int), .slice A2 F.length c2] 33)
    refine block_alloc ?_ _
    simpa using this
  have R0 : Hid ((((w.alloc (.cells #[.int .i64 (n : Int), .slice A E.length c] 33)).alloc (.cells #[.int .i64 (n : Int), .slice A2 F.length c2] 33)).alloc (.cells #[.int .i64 0, .slice none 0 0] 33)).heap[w.heap.size + 2]? = some (.cells #[.int .i64 0, .slice none 0 0] 33 (0, 0))) := by
    have := heap_alloc_new ((w.alloc (.cells #[.int .i64 (n : Int), .slice A E.length c] 33)).alloc (.cells #[.int .i64 (n : Int), .slice A2 F.length c2] 33)) (.cells #[.int .i64 0, .slice none 0 0] 33)
    show _ = _; simpa using this
  have B0 : Hid (Below w.heap.size w (((w.alloc (.cells #[.int .i64 (n : Int), .slice A E.length c] 33)).alloc (.cells #[.int .i64 (n : Int), .slice A2 F.length c2] 33)).alloc (.cells #[.int .i64 0, .slice none 0 0] 33))) := (below2 w _ _).alloc (by simp; omega) _
  obtain ⟨x0, x1, _⟩ := cells_two X0.out
  obtain ⟨y0, y1, _⟩ := cells_two Y0.out
  clear hE hck hel hex hF hck2 hfl hfx
  generalize mulCE n E F = LL at *
  generalize gensV n = G at *
  go_enter Try.func37, Try.ntmps37
  go_upto_region 10 with (first
      | (go_at_call 24; first
        | ((with_reducible refine (HCk.out _ ((HE.out.below B0.out).mono B0.out.size)).mono ?_); rintro e w1 ⟨rfl, hb⟩; have X1 := Lib.hid (block_below X0.out hb); have R1 := Lib.hid (block_below R0.out hb); have B1 := Lib.hid (B0.out.trans (hb.mono B0.out.size)); have Y1 := Lib.hid (block_below Y0.out hb); clear hb x0 x1 y0 y1; obtain ⟨x0, x1, _⟩ := cells_two X1.out; obtain ⟨y0, y1, _⟩ := cells_two Y1.out; skip)
        | ((with_reducible refine (HCf.out _ ((HF.out.below B1.out).mono B1.out.size)).mono ?_); rintro e w2 ⟨rfl, hb⟩; have X2 := Lib.hid (block_below X1.out hb); have R2 := Lib.hid (block_below R1.out hb); have B2 := Lib.hid (B1.out.trans (hb.mono B1.out.size)); have Y2 := Lib.hid (block_below Y1.out hb); clear hb x0 x1 y0 y1; obtain ⟨x0, x1, _⟩ := cells_two X2.out; obtain ⟨y0, y1, _⟩ := cells_two Y2.out; skip)
        | fail)
      | fail)
  have hrl := lt_of_block R2.out
  obtain ⟨w3, hw3⟩ : ∃ w3, w3 = w2.alloc (.cells #[.int .i64 (n : Int), .slice none 0 0] 33) := ⟨_, rfl⟩
  have HO3 : Hid (OW w.heap.size (w2.heap.size + 1) w2.heap.size w w3 n (.slice none 0 0) [] w3) := by
    rw [hw3]
    exact ⟨by omega, B2.out.size, by simp, heap_alloc_new w2 _, World.ownsRow_nil _ _ _ _, fun _ _ _ => rfl, B2.out.alloc B2.out.size _⟩
  have hsz3 : w3.heap.size = w2.heap.size + 1 := by rw [hw3]; simp
  have X3 : Hid (w3.heap[w.heap.size]? = some (.cells #[.int .i64 (n : Int), .slice A E.length c] 33 (0, 0))) := by rw [hw3]; exact block_alloc X2.out _
  have R3 : Hid (w3.heap[w.heap.size + 2]? = some (.cells #[.int .i64 0, .slice none 0 0] 33 (0, 0))) := by rw [hw3]; exact block_alloc R2.out _
  have Y3 : Hid (w3.heap[w.heap.size + 1]? = some (.cells #[.int .i64 (n : Int), .slice A2 F.length c2] 33 (0, 0))) := by rw [hw3]; exact block_alloc Y2.out _
  rw [← hw3]
  clear hw3 x0 x1 y0 y1
  generalize w2.heap.size = tb at *
  obtain ⟨x0, x1, _⟩ := cells_two X3.out
  go_upto_region 11 with (first
      | (go_at_call 47; ((with_reducible refine (HGe.out _).mono ?_); rintro e w4 ⟨v4, rfl, ho, hb⟩; obtain ⟨la, lc, rfl, hrd⟩ := gen_blk ho; have HR := Lib.hid hrd; have HKp : Hid (∀ j, j < tb + 1 → w4.heap[j]? = w3.heap[j]?) := (fun j hj => hb.block j (by omega)); have hs4 := hb.size; have HB4 := Lib.hid hb; have HO4 := Lib.hid (HO3.out.on hb); clear ho hrd hb x0 x1))
      | fail)
  have hbx4 := HO4.out.box
  have htb4 := HO4.out.size
  have htB := HO4.out.tB
  have HO5 : Hid (OW w.heap.size w4.heap.size tb w w4 n (.slice none 0 0) [] w4) := ⟨by omega, HO4.out.tB, Nat.le_refl _, HO4.out.box, World.ownsRow_nil _ _ _ _, fun _ _ _ => rfl, HO4.out.below⟩
  have X5 := Lib.hid (block_below X3.out HB4.out)
  have R5 := Lib.hid (block_below R3.out HB4.out)
  have Y5 := Lib.hid (block_below Y3.out HB4.out)
  have HBx : Hid (w4.heap[tb]? = some (.cells #[.int .i64 (n : Int), .slice none 0 0] 33 (0, 0))) := hbx4
  clear HO4 HO3 HKp hbx4
  go_loopw [9, 10, 36] (fun _ _ I wr => ∃ (k : Nat) (v : Value), I = .int .i64 (k : Int) ∧ k ≤ G.length ∧ Hid (OW w.heap.size w4.heap.size tb w w4 n v ((List.range k).map (mulX G E F)) wr)) (fun _ _ I _ => G.length - (intOf I).toNat)
  case atStart => exact ⟨0, _, rfl, Nat.zero_le _, HO5.out⟩
  case round =>
    clear HO5
    obtain ⟨k, v, rfl, hk, HO⟩ := hrel
    by_cases hkl : k < G.length
    · have hkli : (k : Int) < (G.length : Int) := by omega
      have hke : k < E.length := by have := HEl.out; omega
      have hkle : (k : Int) < (E.length : Int) := by omega
      have hkf : k < F.length := by have := HFl.out; omega
      have hkfe : (k : Int) < (F.length : Int) := by omega
      obtain ⟨g, cs, rfl, hg1, hcell⟩ := HR.out k hkl
      obtain ⟨gx1, gx2⟩ := hcell wr ((HO.out.keep g (lt_of_block hg1) (blk_ne HBx.out hg1 (by decide))).trans hg1)
      have hex := HEx.out k hke hkl
      have hfx := HFx.out k hkf hkl
      have q1 := HGb.out.o1 _ (List.getElem_mem hkl)
      have q60 := HGb.out.o2 _ (List.getElem_mem hkl)
      have HN : Hid ((List.range (k + 1)).map (mulX G E F) = (List.range k).map (mulX G E F) ++ [(E[k] + F[k]) % (G[k].2 : Int)]) := by
        show _ = _
        rw [rm_step]; congr 1; unfold mulX; rw [getDI F k hkf, getDI E k hke, getDG G k hkl]
      have HTl : Hid (((List.range k).map (mulX G E F)).length = k) := by show _ = _; rw [List.length_map, List.length_range]
      have HEk : Hid (∀ W, Below w.heap.size w W → ∃ b o, A = some ⟨b, o, none⟩ ∧ b < w.heap.size ∧ W.cell? ⟨b, o + k, none⟩ = some (.int .i64 E[k])) := fun W hW => (HE.out.below hW).at_ hke
      have HFk : Hid (∀ W, Below w.heap.size w W → ∃ b o, A2 = some ⟨b, o, none⟩ ∧ b < w.heap.size ∧ W.cell? ⟨b, o + k, none⟩ = some (.int .i64 F[k])) := fun W hW => (HF.out.below hW).at_ hkf
      clear hg1 hcell
      generalize E[k] = x at *
      generalize F[k] = y at *
      generalize G[k] = f at *
      obtain ⟨p, q⟩ := f
      simp only at hex q1 q60 gx1 gx2 HN hfx
      generalize (List.range k).map (mulX G E F) = L at *
      have q0 : ((q : Int) == 0) = false := by rw [beq_eq_false_iff_ne]; omega
      have q0' : ¬ ((q : Int) = 0) := by omega
      have q0'' : ¬ (q = 0) := by omega
      have hz0 := Int.emod_nonneg (x + y) q0'
      have hz1 := Int.emod_lt_of_pos (x + y) (show 0 < (q : Int) by omega)
      have htm : Int.tmod (x + y) (q : Int) = (x + y) % (q : Int) := Int.tmod_eq_emod_of_nonneg (by omega)
      have hws : IntKind.i64.wrap (x + y) = (x + y) := IntWalk.i64_in _ (by omega)
      generalize (x + y) % (q : Int) = z at *
      have hwz : IntKind.i64.wrap z = z := IntWalk.i64_in _ (by omega)
      go_upto_region 13 with fail
      have HOd := Lib.hid (HO.out.on (below1 wr (.cells #[.int .i64 (p : Int), .int .i64 (q : Int)] 73))).drew
      have HGd : Hid ((wr.alloc (.cells #[.int .i64 (p : Int), .int .i64 (q : Int)] 73)).drew.heap[wr.heap.size]? = some (.cells #[.int .i64 (p : Int), .int .i64 (q : Int)] 73 (0, 0))) := heap_alloc_new wr _
      clear gx1 gx2 HO
      obtain ⟨wd, hwd⟩ : ∃ wd, wd = (wr.alloc (.cells #[.int .i64 (p : Int), .int .i64 (q : Int)] 73)).drew := ⟨_, rfl⟩
      rw [← hwd] at HOd HGd
      generalize hgbe : wr.heap.size = gb at *
      clear hgbe
      obtain ⟨b1, o1, rfl, hb1, xx1⟩ := HEk.out wd HOd.out.below
      obtain ⟨b2, o2, rfl, hb2, xx2⟩ := HFk.out wd HOd.out.below
      have hsd := HOd.out.size
      have HHd : Hid (∀ W, Below wd.heap.size wd W → W.cell? ⟨tb, 1, none⟩ = some v ∧ W.cell? ⟨w.heap.size, 1, none⟩ = some (.slice (some ⟨b1, o1, none⟩) E.length c) ∧ W.cell? ⟨b1, o1 + k, none⟩ = some (.int .i64 x) ∧ W.cell? ⟨gb, 1, none⟩ = some (.int .i64 (q : Int)) ∧ W.cell? ⟨w.heap.size + 1, 1, none⟩ = some (.slice (some ⟨b2, o2, none⟩) F.length c2) ∧ W.cell? ⟨b2, o2 + k, none⟩ = some (.int .i64 y)) := fun W hW => ⟨(cells_two (block_below HOd.out.box hW)).2.1, (cells_two (block_below (HOd.out.blk X5.out (by omega)) hW)).2.1, (hW.cell (p := ⟨b1, o1 + k, none⟩) (by show b1 < wd.heap.size; omega)).trans xx1, (cells_two (block_below HGd.out hW)).2.1, (cells_two (block_below (HOd.out.blk Y5.out (by omega)) hW)).2.1, (hW.cell (p := ⟨b2, o2 + k, none⟩) (by show b2 < wd.heap.size; omega)).trans xx2⟩
      clear xx1 xx2
      refine region_E 17 (fun W => W.cell? ⟨tb, 1, none⟩ = some v ∧ W.cell? ⟨w.heap.size, 1, none⟩ = some (.slice (some ⟨b1, o1, none⟩) E.length c) ∧ W.cell? ⟨b1, o1 + k, none⟩ = some (.int .i64 x) ∧ W.cell? ⟨gb, 1, none⟩ = some (.int .i64 (q : Int)) ∧ W.cell? ⟨w.heap.size + 1, 1, none⟩ = some (.slice (some ⟨b2, o2, none⟩) F.length c2) ∧ W.cell? ⟨b2, o2 + k, none⟩ = some (.int .i64 y)) (by kernel_rfl) ?_
      rw [← hwd]
      clear hwd
      have hHeld := HHd.out wd (Below.refl _ _)
      refine take_E (n := 17) (i := 0) (v := ?vtt_0) rfl (by kernel_rfl) (fun _ _ _ h => h) ?hytt_0 (by rfl) hHeld ?resttt_0
      case hytt_0 => (intro w9 hSw; (try dsimp only at hSw); go_simp <;> with_reducible rfl)
      (try simp only [List.getElem_toArray, List.getElem_cons_zero, List.getElem_cons_succ, Act.put, List.setIfInBounds_toArray, List.set_cons_zero, List.set_cons_succ])
      refine take_E (n := 17) (i := 1) (v := ?vtt_1) rfl (by kernel_rfl) (fun _ _ _ h => h) ?hytt_1 (by rfl) hHeld ?resttt_1
      case hytt_1 => (intro w9 hSw; (try dsimp only at hSw); go_simp <;> with_reducible rfl)
      (try simp only [List.getElem_toArray, List.getElem_cons_zero, List.getElem_cons_succ, Act.put, List.setIfInBounds_toArray, List.set_cons_zero, List.set_cons_succ])
      refine take_E (n := 17) (i := 2) (v := ?vtt_2) rfl (by kernel_rfl) (fun _ _ _ h => h) ?hytt_2 (by rfl) hHeld ?resttt_2
      case hytt_2 => (intro w9 hSw; (try dsimp only at hSw); go_simp <;> with_reducible rfl)
      (try simp only [List.getElem_toArray, List.getElem_cons_zero, List.getElem_cons_succ, Act.put, List.setIfInBounds_toArray, List.set_cons_zero, List.set_cons_succ])
      refine take_E (n := 17) (i := 3) (v := ?vtt_3) rfl (by kernel_rfl) (fun _ _ _ h => h) ?hytt_3 (by rfl) hHeld ?resttt_3
      case hytt_3 => (intro w9 hSw; (try dsimp only at hSw); go_simp <;> with_reducible rfl)
      (try simp only [List.getElem_toArray, List.getElem_cons_zero, List.getElem_cons_succ, Act.put, List.setIfInBounds_toArray, List.set_cons_zero, List.set_cons_succ])
      refine take_E (n := 17) (i := 4) (v := ?vtt_4) rfl (by kernel_rfl) (fun _ _ _ h => h) ?hytt_4 (by rfl) hHeld ?resttt_4
      case hytt_4 => (intro w9 hSw; (try dsimp only at hSw); go_simp <;> with_reducible rfl)
      (try simp only [List.getElem_toArray, List.getElem_cons_zero, List.getElem_cons_succ, Act.put, List.setIfInBounds_toArray, List.set_cons_zero, List.set_cons_succ])
      refine take_E (n := 17) (i := 5) (v := ?vtt_5) rfl (by kernel_rfl) (fun _ _ _ h => h) ?hytt_5 (by rfl) hHeld ?resttt_5
      case hytt_5 => (intro w9 hSw; (try dsimp only at hSw); go_simp <;> with_reducible rfl)
      (try simp only [List.getElem_toArray, List.getElem_cons_zero, List.getElem_cons_succ, Act.put, List.setIfInBounds_toArray, List.set_cons_zero, List.set_cons_succ])
      refine take_E (n := 17) (i := 6) (v := ?vtt_6) rfl (by kernel_rfl) (fun _ _ _ h => h) ?hytt_6 (by rfl) hHeld ?resttt_6
      case hytt_6 => (intro w9 hSw; (try dsimp only at hSw); go_simp <;> with_reducible rfl)
      (try simp only [List.getElem_toArray, List.getElem_cons_zero, List.getElem_cons_succ, Act.put, List.setIfInBounds_toArray, List.set_cons_zero, List.set_cons_succ])
      refine take_E (n := 17) (i := 7) (v := ?vtt_7) rfl (by kernel_rfl) (fun _ _ _ h => h) ?hytt_7 (by rfl) hHeld ?resttt_7
      case hytt_7 => (intro w9 hSw; (try dsimp only at hSw); go_simp <;> with_reducible rfl)
      (try simp only [List.getElem_toArray, List.getElem_cons_zero, List.getElem_cons_succ, Act.put, List.setIfInBounds_toArray, List.set_cons_zero, List.set_cons_succ])
      refine take_E (n := 17) (i := 8) (v := ?vtt_8) rfl (by kernel_rfl) (fun _ _ _ h => h) ?hytt_8 (by rfl) hHeld ?resttt_8
      case hytt_8 => (intro w9 hSw; (try dsimp only at hSw); go_simp <;> with_reducible rfl)
      (try simp only [List.getElem_toArray, List.getElem_cons_zero, List.getElem_cons_succ, Act.put, List.setIfInBounds_toArray, List.set_cons_zero, List.set_cons_succ])
      refine take_E (n := 17) (i := 9) (v := ?vtt_9) rfl (by kernel_rfl) (fun _ _ _ h => h) ?hytt_9 (by rfl) hHeld ?resttt_9
      case hytt_9 => (intro w9 hSw; (try dsimp only at hSw); go_simp <;> with_reducible rfl)
      (try simp only [List.getElem_toArray, List.getElem_cons_zero, List.getElem_cons_succ, Act.put, List.setIfInBounds_toArray, List.set_cons_zero, List.set_cons_succ])
      refine take_E (n := 17) (i := 10) (v := ?vtt_10) rfl (by kernel_rfl) (fun _ _ _ h => h) ?hytt_10 (by rfl) hHeld ?resttt_10
      case hytt_10 => (intro w9 hSw; (try dsimp only at hSw); go_simp <;> with_reducible rfl)
      (try simp only [List.getElem_toArray, List.getElem_cons_zero, List.getElem_cons_succ, Act.put, List.setIfInBounds_toArray, List.set_cons_zero, List.set_cons_succ])
      refine take_E (n := 17) (i := 11) (v := ?vtt_11) rfl (by kernel_rfl) (fun _ _ _ h => h) ?hytt_11 (by rfl) hHeld ?resttt_11
      case hytt_11 => (intro w9 hSw; (try dsimp only at hSw); go_simp <;> with_reducible rfl)
      (try simp only [List.getElem_toArray, List.getElem_cons_zero, List.getElem_cons_succ, Act.put, List.setIfInBounds_toArray, List.set_cons_zero, List.set_cons_succ])
      refine take_E (n := 17) (i := 12) (v := ?vtt_12) rfl (by kernel_rfl) (fun _ _ _ h => h) ?hytt_12 (by rfl) hHeld ?resttt_12
      case hytt_12 => (intro w9 hSw; (try dsimp only at hSw); go_simp <;> with_reducible rfl)
      (try simp only [List.getElem_toArray, List.getElem_cons_zero, List.getElem_cons_succ, Act.put, List.setIfInBounds_toArray, List.set_cons_zero, List.set_cons_succ])
      refine take_E (n := 17) (i := 13) (v := ?vtt_13) rfl (by kernel_rfl) (fun _ _ _ h => h) ?hytt_13 (by rfl) hHeld ?resttt_13
      case hytt_13 => (intro w9 hSw; (try dsimp only at hSw); go_simp <;> with_reducible rfl)
      (try simp only [List.getElem_toArray, List.getElem_cons_zero, List.getElem_cons_succ, Act.put, List.setIfInBounds_toArray, List.set_cons_zero, List.set_cons_succ])
      refine take_E (n := 17) (i := 14) (v := ?vtt_14) rfl (by kernel_rfl) (fun _ _ _ h => h) ?hytt_14 (by rfl) hHeld ?resttt_14
      case hytt_14 => (intro w9 hSw; (try dsimp only at hSw); go_simp <;> with_reducible rfl)
      (try simp only [List.getElem_toArray, List.getElem_cons_zero, List.getElem_cons_succ, Act.put, List.setIfInBounds_toArray, List.set_cons_zero, List.set_cons_succ])
      refine take_E (n := 17) (i := 15) (v := ?vtt_15) rfl (by kernel_rfl) (fun _ _ _ h => h) ?hytt_15 (by rfl) hHeld ?resttt_15
      case hytt_15 => (intro w9 hSw; (try dsimp only at hSw); go_simp <;> with_reducible rfl)
      (try simp only [List.getElem_toArray, List.getElem_cons_zero, List.getElem_cons_succ, Act.put, List.setIfInBounds_toArray, List.set_cons_zero, List.set_cons_succ])
      refine one_E (n := 17) (i := 16) (by kernel_rfl) rfl (fun K hK => ?_)
      go_simp
      refine hK.out _ _ (fun _ => HHd.out _ (below1 wd _)) (fun hHeld8 => ?_)
      clear hK K
      (try simp only [List.getElem_toArray, List.getElem_cons_zero, List.getElem_cons_succ, Act.put, List.setIfInBounds_toArray, List.set_cons_zero, List.set_cons_succ])
      refine one_E (n := 17) (i := 17) (by kernel_rfl) rfl (fun K hK => ?_)
      refine step_append_lies _ (by rfl) _ _ _ (by rfl) w4.heap.size 3 i0 _ 1 8 Try.underlying23 hi0 z0 z1 z2 rfl (by omega) v k (zs L) (by rfl) (own_below (by have := HOd.out.own; rw [HTl.out] at this; exact this) (below1 wd _)) ⟨wd.heap.size, 0, none⟩ 1 1 [.int .i64 z] (by rfl) (by rfl) (World.news_of_block (cs := #[.int .i64 z]) (t := 3) (fr := (0, 0)) (heap_alloc_new wd _)) (by simp [Value.oneCell']) (by omega) (by unfold maxLen; omega) (by omega) (by have := HOd.out.size; simp; omega) (wd.heap.size + 1) (by simp) ?_
      intro gg cap' p2 hown2 hgrow hat hlt3
      obtain ⟨hbx, hxn⟩ := HOd.out.push (by rw [HTl.out]; exact hown2) hgrow
      have HXn := Lib.hid hxn
      obtain ⟨e1, e2, ef⟩ := cells_two hbx
      clear hown2 hgrow hat hxn hbx
      refine hK.out _ _ (fun h => absurd h (by decide)) (fun hHeld9 => ?_)
      clear hK K
      (try simp only [List.getElem_toArray, List.getElem_cons_zero, List.getElem_cons_succ, Act.put, List.setIfInBounds_toArray, List.set_cons_zero, List.set_cons_succ])
      refine one_E (n := 17) (i := 18) (by kernel_rfl) rfl (fun K hK => ?_)
      go_simp
      refine hK.out _ _ (fun h => absurd h (by decide)) (fun hHeld10 => ?_)
      clear hK K
      (try simp only [List.getElem_toArray, List.getElem_cons_zero, List.getElem_cons_succ, Act.put, List.setIfInBounds_toArray, List.set_cons_zero, List.set_cons_succ])
      refine one_E (n := 17) (i := 19) (by kernel_rfl) rfl (fun K hK => ?_)
      go_simp
      refine hK.out _ _ (fun h => absurd h (by decide)) (fun hHeld10 => ?_)
      clear hK K
      (try simp only [List.getElem_toArray, List.getElem_cons_zero, List.getElem_cons_succ, Act.put, List.setIfInBounds_toArray, List.set_cons_zero, List.set_cons_succ])
      refine done_E (by kernel_rfl) ?_ _
      go_wp2
      go_roundw
      case rel => exact ⟨k + 1, _, by go_num, by omega, by rw [HN.out]; exact HXn.out⟩
      case measure => simp [intOf]; omega
    · obtain rfl : k = G.length := by omega
      have hk3 : ¬ (G.length : Int) < (G.length : Int) := by omega
      rw [← HL.out] at HO
      obtain ⟨A0, l0, c0, rfl⟩ := ownsRow_slice HO.out.own
      obtain ⟨z1', z2', zf⟩ := cells_two HO.out.box
      have hr0 := HO.out.blk R5.out (by omega)
      obtain ⟨r0, r1, rf⟩ := cells_two hr0
      have R6 := Lib.hid (two_setC hr0 (.int .i64 (n : Int)) (.slice A0 l0 c0))
      obtain ⟨s0, s1, sf⟩ := cells_two R6.out
      have HOf := Lib.hid (own_base (show w.heap.size ≤ w4.heap.size by omega) (ownsRow_setCell_below (ownsRow_setCell_below HO.out.own (a := ⟨w.heap.size + 2, 0, none⟩) (by show w.heap.size + 2 < w4.heap.size; omega) (.int .i64 (n : Int))) (a := ⟨w.heap.size + 2, 1, none⟩) (by show w.heap.size + 2 < w4.heap.size; omega) (.slice A0 l0 c0)))
      have HBf := Lib.hid ((HO.out.below.setCell (p := ⟨w.heap.size + 2, 0, none⟩) (by show w.heap.size ≤ w.heap.size + 2; omega) (.int .i64 (n : Int))).setCell (p := ⟨w.heap.size + 2, 1, none⟩) (by show w.heap.size ≤ w.heap.size + 2; omega) (.slice A0 l0 c0))
      clear hr0
      go_wp2
      refine bodyPost_ret (v := .tuple #[.agg #[.int .i64 (n : Int), .slice A0 l0 c0], .int .i64 0]) ?_ rfl ⟨_, rfl, HOf.out, HBf.out⟩
      simp [results, Try.results37, go_sem, s0, s1]
end Go.Proofs.Ytlagljnhbhnelaa
namespace Go.Proofs.Ytlagljnhbhnelaa
open Go.RowKit
set_option linter.unusedVariables false
set_option linter.unusedSimpArgs false

set_option maxHeartbeats 1600000 in
set_option maxRecDepth 1000000 in
theorem pconj_bad (n : Int) (E : List Int) (A : Option Addr) (c : Nat) (w : World) (hE : RdZ w w.heap.size A c E) (h : chkV n E ≠ 0) :
    Calls Try.prog 38 #[.agg #[.int .i64 n, .slice A E.length c]] w fun e w' => e = .returned (.tuple #[.agg #[.int .i64 0, .slice none 0 0], .int .i64 (chkV n E)]) ∧ Below w.heap.size w w' := by
  have X0 : Hid (((w.alloc (.cells #[.int .i64 n, .slice A E.length c] 33)).alloc (.cells #[.int .i64 0, .slice none 0 0] 33)).heap[w.heap.size]? = some (.cells #[.int .i64 n, .slice A E.length c] 33 (0, 0))) := block_alloc (heap_alloc_new w _) _
  have R0 : Hid (((w.alloc (.cells #[.int .i64 n, .slice A E.length c] 33)).alloc (.cells #[.int .i64 0, .slice none 0 0] 33)).heap[w.heap.size + 1]? = some (.cells #[.int .i64 0, .slice none 0 0] 33 (0, 0))) := by
    have := heap_alloc_new (w.alloc (.cells #[.int .i64 n, .slice A E.length c] 33)) (.cells #[.int .i64 0, .slice none 0 0] 33)
    show _ = _; simpa using this
  have B0 : Hid (Below w.heap.size w ((w.alloc (.cells #[.int .i64 n, .slice A E.length c] 33)).alloc (.cells #[.int .i64 0, .slice none 0 0] 33))) := below2 w _ _
  have HCk := Lib.hid (dckv_any n E A c ((w.alloc (.cells #[.int .i64 n, .slice A E.length c] 33)).alloc (.cells #[.int .i64 0, .slice none 0 0] 33)) ((hE.below B0.out).mono B0.out.size))
  obtain ⟨x0, x1, _⟩ := cells_two X0.out
  have hk : (chkV n E != 0) = true := by rw [bne_iff_ne]; exact h
  clear h hE
  generalize chkV n E = K at *
  go_enter Try.func38, Try.ntmps38
  go_wp2_with (first
    | (go_at_call 24; ((with_reducible refine HCk.out.mono ?_); rintro e w1 ⟨rfl, hb⟩; have R1 := Lib.hid (block_below R0.out hb); have B1 := Lib.hid (B0.out.trans (hb.mono B0.out.size)); clear hb x0 x1; obtain ⟨r0, r1, rf⟩ := cells_two R1.out))
    | fail)
  have R6 := Lib.hid (two_setC R1.out (.int .i64 0) (.slice none 0 0))
  obtain ⟨s0, s1, sf⟩ := cells_two R6.out
  have HB6 := Lib.hid ((B1.out.setCell (p := ⟨w.heap.size + 1, 0, none⟩) (by show _ ≤ w.heap.size + 1; omega) (.int .i64 0)).setCell (p := ⟨w.heap.size + 1, 1, none⟩) (by show _ ≤ w.heap.size + 1; omega) (.slice none 0 0))
  refine bodyPost_ret (v := .tuple #[.agg #[.int .i64 0, .slice none 0 0], .int .i64 K]) ?_ rfl ⟨rfl, HB6.out⟩
  simp [results, Try.results38, go_sem, s0, s1]
set_option maxHeartbeats 1600000 in
set_option maxRecDepth 1000000 in
theorem pmul_bad1 (n n2 : Int) (E F : List Int) (A A2 : Option Addr) (c c2 : Nat) (w : World) (hE : RdZ w w.heap.size A c E) (hF : RdZ w w.heap.size A2 c2 F) (h : chkV n E ≠ 0) :
    Calls Try.prog 37 #[.agg #[.int .i64 n, .slice A E.length c], .agg #[.int .i64 n2, .slice A2 F.length c2]] w fun e w' => e = .returned (.tuple #[.agg #[.int .i64 0, .slice none 0 0], .int .i64 (chkV n E)]) ∧ Below w.heap.size w w' := by
  have X0 : Hid ((((w.alloc (.cells #[.int .i64 n, .slice A E.length c] 33)).alloc (.cells #[.int .i64 n2, .slice A2 F.length c2] 33)).alloc (.cells #[.int .i64 0, .slice none 0 0] 33)).heap[w.heap.size]? = some (.cells #[.int .i64 n, .slice A E.length c] 33 (0, 0))) := block_alloc (block_alloc (heap_alloc_new w _) _) _
  have Y0 : Hid ((((w.alloc (.cells #[.int .i64 n, .slice A E.length c] 33)).alloc (.cells #[.int .i64 n2, .slice A2 F.length c2] 33)).alloc (.cells #[.int .i64 0, .slice none 0 0] 33)).heap[w.heap.size + 1]? = some (.cells #[.int .i64 n2, .slice A2 F.length c2] 33 (0, 0))) := by
    have := heap_alloc_new (w.alloc (.cells #[.int .i64 n, .slice A E.length c] 33)) (.cells #[.int .i64 n2, .slice A2 F.length c2] 33)
    refine block_alloc ?_ _
    simpa using this
  have R0 : Hid ((((w.alloc (.cells #[.int .i64 n, .slice A E.length c] 33)).alloc (.cells #[.int .i64 n2, .slice A2 F.length c2] 33)).alloc (.cells #[.int .i64 0, .slice none 0 0] 33)).heap[w.heap.size + 2]? = some (.cells #[.int .i64 0, .slice none 0 0] 33 (0, 0))) := by
    have := heap_alloc_new ((w.alloc (.cells #[.int .i64 n, .slice A E.length c] 33)).alloc (.cells #[.int .i64 n2, .slice A2 F.length c2] 33)) (.cells #[.int .i64 0, .slice none 0 0] 33)
    show _ = _; simpa using this
  have B0 : Hid (Below w.heap.size w (((w.alloc (.cells #[.int .i64 n, .slice A E.length c] 33)).alloc (.cells #[.int .i64 n2, .slice A2 F.length c2] 33)).alloc (.cells #[.int .i64 0, .slice none 0 0] 33))) := (below2 w _ _).alloc (by simp; omega) _
  have HCk := Lib.hid (fun (W : World) (h : RdZ W W.heap.size A c E) => dckv_any n E A c W h)
  have HCf := Lib.hid (fun (W : World) (h : RdZ W W.heap.size A2 c2 F) => dckv_any n2 F A2 c2 W h)
  have HE := Lib.hid hE
  have HF := Lib.hid hF
  obtain ⟨x0, x1, _⟩ := cells_two X0.out
  obtain ⟨y0, y1, _⟩ := cells_two Y0.out
  clear hE hF
  have hk : (chkV n E != 0) = true := by rw [bne_iff_ne]; exact h
  clear h
  generalize chkV n E = K at *
  go_enter Try.func37, Try.ntmps37
  go_wp2_with (first
    | (go_at_call 24; ((with_reducible refine (HCk.out _ ((HE.out.below B0.out).mono B0.out.size)).mono ?_); rintro e w1 ⟨rfl, hb⟩; have X1 := Lib.hid (block_below X0.out hb); have Y1 := Lib.hid (block_below Y0.out hb); have R1 := Lib.hid (block_below R0.out hb); have B1 := Lib.hid (B0.out.trans (hb.mono B0.out.size)); clear hb x0 x1 y0 y1; obtain ⟨x0, x1, _⟩ := cells_two X1.out; obtain ⟨y0, y1, _⟩ := cells_two Y1.out; obtain ⟨r0, r1, rf⟩ := cells_two R1.out))
    | fail)
  have R6 := Lib.hid (two_setC R1.out (.int .i64 0) (.slice none 0 0))
  obtain ⟨s0, s1, sf⟩ := cells_two R6.out
  have HB6 := Lib.hid ((B1.out.setCell (p := ⟨w.heap.size + 2, 0, none⟩) (by show _ ≤ w.heap.size + 2; omega) (.int .i64 0)).setCell (p := ⟨w.heap.size + 2, 1, none⟩) (by show _ ≤ w.heap.size + 2; omega) (.slice none 0 0))
  refine bodyPost_ret (v := .tuple #[.agg #[.int .i64 0, .slice none 0 0], .int .i64 K]) ?_ rfl ⟨rfl, HB6.out⟩
  simp [results, Try.results37, go_sem, s0, s1]
set_option maxHeartbeats 1600000 in
set_option maxRecDepth 1000000 in
theorem pmul_bad2 (n n2 : Int) (E F : List Int) (A A2 : Option Addr) (c c2 : Nat) (w : World) (hE : RdZ w w.heap.size A c E) (hF : RdZ w w.heap.size A2 c2 F) (h1 : chkV n E = 0) (h : chkV n2 F ≠ 0) :
    Calls Try.prog 37 #[.agg #[.int .i64 n, .slice A E.length c], .agg #[.int .i64 n2, .slice A2 F.length c2]] w fun e w' => e = .returned (.tuple #[.agg #[.int .i64 0, .slice none 0 0], .int .i64 (chkV n2 F)]) ∧ Below w.heap.size w w' := by
  have X0 : Hid ((((w.alloc (.cells #[.int .i64 n, .slice A E.length c] 33)).alloc (.cells #[.int .i64 n2, .slice A2 F.length c2] 33)).alloc (.cells #[.int .i64 0, .slice none 0 0] 33)).heap[w.heap.size]? = some (.cells #[.int .i64 n, .slice A E.length c] 33 (0, 0))) := block_alloc (block_alloc (heap_alloc_new w _) _) _
  have Y0 : Hid ((((w.alloc (.cells #[.int .i64 n, .slice A E.length c] 33)).alloc (.cells #[.int .i64 n2, .slice A2 F.length c2] 33)).alloc (.cells #[.int .i64 0, .slice none 0 0] 33)).heap[w.heap.size + 1]? = some (.cells #[.int .i64 n2, .slice A2 F.length c2] 33 (0, 0))) := by
    have := heap_alloc_new (w.alloc (.cells #[.int .i64 n, .slice A E.length c] 33)) (.cells #[.int .i64 n2, .slice A2 F.length c2] 33)
    refine block_alloc ?_ _
    simpa using this
  have R0 : Hid ((((w.alloc (.cells #[.int .i64 n, .slice A E.length c] 33)).alloc (.cells #[.int .i64 n2, .slice A2 F.length c2] 33)).alloc (.cells #[.int .i64 0, .slice none 0 0] 33)).heap[w.heap.size + 2]? = some (.cells #[.int .i64 0, .slice none 0 0] 33 (0, 0))) := by
    have := heap_alloc_new ((w.alloc (.cells #[.int .i64 n, .slice A E.length c] 33)).alloc (.cells #[.int .i64 n2, .slice A2 F.length c2] 33)) (.cells #[.int .i64 0, .slice none 0 0] 33)
    show _ = _; simpa using this
  have B0 : Hid (Below w.heap.size w (((w.alloc (.cells #[.int .i64 n, .slice A E.length c] 33)).alloc (.cells #[.int .i64 n2, .slice A2 F.length c2] 33)).alloc (.cells #[.int .i64 0, .slice none 0 0] 33))) := (below2 w _ _).alloc (by simp; omega) _
  have HCk := Lib.hid (fun (W : World) (h : RdZ W W.heap.size A c E) => dckv_any n E A c W h)
  have HCf := Lib.hid (fun (W : World) (h : RdZ W W.heap.size A2 c2 F) => dckv_any n2 F A2 c2 W h)
  have HE := Lib.hid hE
  have HF := Lib.hid hF
  obtain ⟨x0, x1, _⟩ := cells_two X0.out
  obtain ⟨y0, y1, _⟩ := cells_two Y0.out
  clear hE hF
  rw [h1] at HCk
  have hk : (chkV n2 F != 0) = true := by rw [bne_iff_ne]; exact h
  clear h h1
  generalize chkV n2 F = K at *
  go_enter Try.func37, Try.ntmps37
  go_wp2_with (first
    | (go_at_call 24; first
        | ((with_reducible refine (HCk.out _ ((HE.out.below B0.out).mono B0.out.size)).mono ?_); rintro e w1 ⟨rfl, hb⟩; have X1 := Lib.hid (block_below X0.out hb); have Y1 := Lib.hid (block_below Y0.out hb); have R1 := Lib.hid (block_below R0.out hb); have B1 := Lib.hid (B0.out.trans (hb.mono B0.out.size)); clear hb x0 x1 y0 y1; obtain ⟨x0, x1, _⟩ := cells_two X1.out; obtain ⟨y0, y1, _⟩ := cells_two Y1.out; obtain ⟨r0, r1, rf⟩ := cells_two R1.out)
        | (clear r0 r1 rf; (with_reducible refine (HCf.out _ ((HF.out.below B1.out).mono B1.out.size)).mono ?_); rintro e w2 ⟨rfl, hb⟩; have X2 := Lib.hid (block_below X1.out hb); have Y2 := Lib.hid (block_below Y1.out hb); have R2 := Lib.hid (block_below R1.out hb); have B2 := Lib.hid (B1.out.trans (hb.mono B1.out.size)); clear hb x0 x1 y0 y1; obtain ⟨x0, x1, _⟩ := cells_two X2.out; obtain ⟨y0, y1, _⟩ := cells_two Y2.out; obtain ⟨r0, r1, rf⟩ := cells_two R2.out)
        | fail)
    | fail)
  have R6 := Lib.hid (two_setC R2.out (.int .i64 0) (.slice none 0 0))
  obtain ⟨s0, s1, sf⟩ := cells_two R6.out
  have HB6 := Lib.hid ((B2.out.setCell (p := ⟨w.heap.size + 2, 0, none⟩) (by show _ ≤ w.heap.size + 2; omega) (.int .i64 0)).setCell (p := ⟨w.heap.size + 2, 1, none⟩) (by show _ ≤ w.heap.size + 2; omega) (.slice none 0 0))
  refine bodyPost_ret (v := .tuple #[.agg #[.int .i64 0, .slice none 0 0], .int .i64 K]) ?_ rfl ⟨rfl, HB6.out⟩
  simp [results, Try.results37, go_sem, s0, s1]
set_option maxHeartbeats 1600000 in
set_option maxRecDepth 1000000 in
theorem pmul_dif (n n2 : Int) (E F : List Int) (A A2 : Option Addr) (c c2 : Nat) (w : World) (hE : RdZ w w.heap.size A c E) (hF : RdZ w w.heap.size A2 c2 F) (h1 : chkV n E = 0) (h2 : chkV n2 F = 0) (h : n ≠ n2) :
    Calls Try.prog 37 #[.agg #[.int .i64 n, .slice A E.length c], .agg #[.int .i64 n2, .slice A2 F.length c2]] w fun e w' => e = .returned (.tuple #[.agg #[.int .i64 0, .slice none 0 0], .int .i64 24]) ∧ Below w.heap.size w w' := by
  have X0 : Hid ((((w.alloc (.cells #[.int .i64 n, .slice A E.length c] 33)).alloc (.cells #[.int .i64 n2, .slice A2 F.length c2] 33)).alloc (.cells #[.int .i64 0, .slice none 0 0] 33)).heap[w.heap.size]? = some (.cells #[.int .i64 n, .slice A E.length c] 33 (0, 0))) := block_alloc (block_alloc (heap_alloc_new w _) _) _
  have Y0 : Hid ((((w.alloc (.cells #[.int .i64 n, .slice A E.length c] 33)).alloc (.cells #[.int .i64 n2, .slice A2 F.length c2] 33)).alloc (.cells #[.int .i64 0, .slice none 0 0] 33)).heap[w.heap.size + 1]? = some (.cells #[.int .i64 n2, .slice A2 F.length c2] 33 (0, 0))) := by
    have := heap_alloc_new (w.alloc (.cells #[.int .i64 n, .slice A E.length c] 33)) (.cells #[.int .i64 n2, .slice A2 F.length c2] 33)
    refine block_alloc ?_ _
    simpa using this
  have R0 : Hid ((((w.alloc (.cells #[.int .i64 n, .slice A E.length c] 33)).alloc (.cells #[.int .i64 n2, .slice A2 F.length c2] 33)).alloc (.cells #[.int .i64 0, .slice none 0 0] 33)).heap[w.heap.size + 2]? = some (.cells #[.int .i64 0, .slice none 0 0] 33 (0, 0))) := by
    have := heap_alloc_new ((w.alloc (.cells #[.int .i64 n, .slice A E.length c] 33)).alloc (.cells #[.int .i64 n2, .slice A2 F.length c2] 33)) (.cells #[.int .i64 0, .slice none 0 0] 33)
    show _ = _; simpa using this
  have B0 : Hid (Below w.heap.size w (((w.alloc (.cells #[.int .i64 n, .slice A E.length c] 33)).alloc (.cells #[.int .i64 n2, .slice A2 F.length c2] 33)).alloc (.cells #[.int .i64 0, .slice none 0 0] 33))) := (below2 w _ _).alloc (by simp; omega) _
  have HCk := Lib.hid (fun (W : World) (h : RdZ W W.heap.size A c E) => dckv_any n E A c W h)
  have HCf := Lib.hid (fun (W : World) (h : RdZ W W.heap.size A2 c2 F) => dckv_any n2 F A2 c2 W h)
  have HE := Lib.hid hE
  have HF := Lib.hid hF
  obtain ⟨x0, x1, _⟩ := cells_two X0.out
  obtain ⟨y0, y1, _⟩ := cells_two Y0.out
  clear hE hF
  rw [h1] at HCk
  rw [h2] at HCf
  have hk : (n != n2) = true := by rw [bne_iff_ne]; exact h
  clear h h1 h2
  go_enter Try.func37, Try.ntmps37
  go_wp2_with (first
    | (go_at_call 24; first
        | ((with_reducible refine (HCk.out _ ((HE.out.below B0.out).mono B0.out.size)).mono ?_); rintro e w1 ⟨rfl, hb⟩; have X1 := Lib.hid (block_below X0.out hb); have Y1 := Lib.hid (block_below Y0.out hb); have R1 := Lib.hid (block_below R0.out hb); have B1 := Lib.hid (B0.out.trans (hb.mono B0.out.size)); clear hb x0 x1 y0 y1; obtain ⟨x0, x1, _⟩ := cells_two X1.out; obtain ⟨y0, y1, _⟩ := cells_two Y1.out; obtain ⟨r0, r1, rf⟩ := cells_two R1.out)
        | (clear r0 r1 rf; (with_reducible refine (HCf.out _ ((HF.out.below B1.out).mono B1.out.size)).mono ?_); rintro e w2 ⟨rfl, hb⟩; have X2 := Lib.hid (block_below X1.out hb); have Y2 := Lib.hid (block_below Y1.out hb); have R2 := Lib.hid (block_below R1.out hb); have B2 := Lib.hid (B1.out.trans (hb.mono B1.out.size)); clear hb x0 x1 y0 y1; obtain ⟨x0, x1, _⟩ := cells_two X2.out; obtain ⟨y0, y1, _⟩ := cells_two Y2.out; obtain ⟨r0, r1, rf⟩ := cells_two R2.out)
        | fail)
    | fail)
  have R6 := Lib.hid (two_setC R2.out (.int .i64 0) (.slice none 0 0))
  obtain ⟨s0, s1, sf⟩ := cells_two R6.out
  have HB6 := Lib.hid ((B2.out.setCell (p := ⟨w.heap.size + 2, 0, none⟩) (by show _ ≤ w.heap.size + 2; omega) (.int .i64 0)).setCell (p := ⟨w.heap.size + 2, 1, none⟩) (by show _ ≤ w.heap.size + 2; omega) (.slice none 0 0))
  refine bodyPost_ret (v := .tuple #[.agg #[.int .i64 0, .slice none 0 0], .int .i64 24]) ?_ rfl ⟨rfl, HB6.out⟩
  simp [results, Try.results37, go_sem, s0, s1]
end Go.Proofs.Ytlagljnhbhnelaa
namespace Go.Proofs.Ytlagljnhbhnelaa
open Go.RowKit
set_option linter.unusedVariables false
set_option linter.unusedSimpArgs false

/-- What Mul, Conjugate answer, in one form. -/
theorem rdz_nil (W : World) (B : Nat) : RdZ W B none 0 [] := ⟨by simp, by unfold maxLen; omega, fun h0 => by simp at h0, fun _ h0 => by cases h0⟩
set_option maxHeartbeats 6400000 in
set_option maxRecDepth 1000000 in
theorem lpr_walk (n : Int) (E : List Int) (n2 : Int) (F : List Int) (w : World) {A : Option Addr} {c : Nat} (hE : RdZ w w.heap.size A c E) (_ : A = none → c = 0) {A2 : Option Addr} {c2 : Nat} (hF : RdZ w w.heap.size A2 c2 F) (_ : A2 = none → c2 = 0) :
    Calls Try.prog 9 #[.agg #[.int .i64 n, .slice A E.length c], .agg #[.int .i64 n2, .slice A2 F.length c2]] w fun e w' => e = .returned (.bool true) ∧ Below w.heap.size w w' := by
  have HA := Lib.hid awake28_any
  have hle := hE.len
  have hlf := hF.len
  have X0 : Hid (((w.alloc (.cells #[.int .i64 n, .slice A E.length c] 33)).alloc (.cells #[.int .i64 n2, .slice A2 F.length c2] 33)).heap[w.heap.size]? = some (.cells #[.int .i64 n, .slice A E.length c] 33 (0, 0))) := block_alloc (heap_alloc_new w _) _
  have Y0 : Hid (((w.alloc (.cells #[.int .i64 n, .slice A E.length c] 33)).alloc (.cells #[.int .i64 n2, .slice A2 F.length c2] 33)).heap[w.heap.size + 1]? = some (.cells #[.int .i64 n2, .slice A2 F.length c2] 33 (0, 0))) := by
    have := heap_alloc_new (w.alloc (.cells #[.int .i64 n, .slice A E.length c] 33)) (.cells #[.int .i64 n2, .slice A2 F.length c2] 33)
    show _ = _; simpa using this
  have B0 : Hid (Below w.heap.size w ((w.alloc (.cells #[.int .i64 n, .slice A E.length c] 33)).alloc (.cells #[.int .i64 n2, .slice A2 F.length c2] 33))) := below2 w _ _
  obtain ⟨x0, x1, _⟩ := cells_two X0.out
  obtain ⟨y0, y1, _⟩ := cells_two Y0.out
  by_cases hl : 100 < E.length ∨ 100 < F.length
  · have hz : (100 < (E.length : Int)) ∨ (¬ 100 < (E.length : Int) ∧ 100 < (F.length : Int)) := by omega
    clear hE hF hl
    rcases hz with h | ⟨h1, h2⟩
    · go_enter Try.func9, Try.ntmps9
      go_wp2_with (first
        | (go_at_call 13; ((with_reducible refine (HA.out _).mono ?_); rintro e v1 ⟨rfl, hb⟩; have B1 := Lib.hid (B0.out.trans (hb.mono B0.out.size)); clear hb))
        | fail)
      go_ret
      exact ⟨rfl, B1.out⟩
    · go_enter Try.func9, Try.ntmps9
      go_wp2_with (first
        | (go_at_call 13; ((with_reducible refine (HA.out _).mono ?_); rintro e v1 ⟨rfl, hb⟩; have B1 := Lib.hid (B0.out.trans (hb.mono B0.out.size)); clear hb))
        | fail)
      go_ret
      exact ⟨rfl, B1.out⟩
  · have hl1 : ¬ 100 < (E.length : Int) := by omega
    have hl2 : ¬ 100 < (F.length : Int) := by omega
    have HE0 : Hid (∀ W, Below w.heap.size w W → RdZ W W.heap.size A c E) := fun W hW => (hE.below hW).mono hW.size
    have HF0 : Hid (∀ W, Below w.heap.size w W → RdZ W W.heap.size A2 c2 F) := fun W hW => (hF.below hW).mono hW.size
    have HG1 := Lib.hid (fun (W : World) (h : RdZ W W.heap.size A c E) => rchk_any n E A c W h)
    have HG2 := Lib.hid (fun (W : World) (h : RdZ W W.heap.size A2 c2 F) => rchk_any n2 F A2 c2 W h)
    have HS0 : Hid (∀ W : World, Calls Try.prog 30 #[.agg #[.int .i64 0, .slice none 0 0], .agg #[.int .i64 0, .slice none 0 0]] W fun e w' => e = .returned (.bool true) ∧ Below W.heap.size W w') := fun W => csame_any 0 [] none none 0 0 0 0 W (rdz_nil W 0) (rdz_nil W 0) (Nat.zero_le _) (Nat.zero_le _)
    clear hl
    by_cases h1 : chkV n E = 0
    · obtain ⟨N, rfl, N1, N2, hck⟩ : ∃ N : Nat, n = (N : Int) ∧ 1 ≤ N ∧ (N : Int) ≤ 60 ∧ ckX N E = 0 := by
        unfold chkV at h1
        by_cases h : 1 ≤ n ∧ n ≤ 60
        · rw [if_pos h] at h1
          exact ⟨n.toNat, by omega, by omega, by omega, h1⟩
        · rw [if_neg h] at h1; cases h1
      have HCo : Hid (∀ W : World, RdZ W W.heap.size A c E → Calls Try.prog 38 #[.agg #[.int .i64 (N : Int), .slice A E.length c]] W fun e w' => ∃ A5 c5, e = .returned (.tuple #[.agg #[.int .i64 (N : Int), .slice A5 (conE N E).length c5], .int .i64 0]) ∧ RdZ w' w'.heap.size A5 c5 (conE N E) ∧ Below W.heap.size W w') := fun W hW => by
        refine (pconj_any N E A c W N1 N2 hW hck).mono fun e w' ⟨v, he, ho, hb⟩ => ?_
        obtain ⟨A5, c5, rfl, hr⟩ := own_rdz ho
        exact ⟨A5, c5, he, hr, hb⟩
      have HRo : Hid (∀ W : World, RdZ W W.heap.size A c E → Calls Try.prog 39 #[.agg #[.int .i64 (N : Int), .slice A E.length c]] W fun e w' => ∃ A5 c5, e = .returned (.agg #[.int .i64 (N : Int), .slice A5 (conE N E).length c5]) ∧ RdZ w' w'.heap.size A5 c5 (conE N E) ∧ Below W.heap.size W w') := fun W hW => by
        refine (rconj_any N E A c W N1 N2 hW hck).mono fun e w' ⟨v, he, ho, hb⟩ => ?_
        obtain ⟨A5, c5, rfl, hr⟩ := own_rdz ho
        exact ⟨A5, c5, he, hr, hb⟩
      rw [h1] at HG1
      have HSc := Lib.hid (fun (A1 A2 : Option Addr) (c1 c2 B1 B2 : Nat) (W : World) h1 h2 h3 h4 => csame_any (N : Int) (conE N E) A1 A2 c1 c2 B1 B2 W h1 h2 h3 h4)
      by_cases h2 : chkV n2 F = 0
      · rw [h2] at HG2
        by_cases h3 : (N : Int) = n2
        · subst h3
          have hck2 : ckX N F = 0 := by
            unfold chkV at h2
            rw [if_pos ⟨by omega, N2⟩, Int.toNat_natCast] at h2; exact h2
          have HMu : Hid (∀ W : World, RdZ W W.heap.size A c E → RdZ W W.heap.size A2 c2 F → Calls Try.prog 37 #[.agg #[.int .i64 (N : Int), .slice A E.length c], .agg #[.int .i64 (N : Int), .slice A2 F.length c2]] W fun e w' => ∃ A5 c5, e = .returned (.tuple #[.agg #[.int .i64 (N : Int), .slice A5 (mulCE N E F).length c5], .int .i64 0]) ∧ RdZ w' w'.heap.size A5 c5 (mulCE N E F) ∧ Below W.heap.size W w') := fun W hW hW2 => by
            refine (pmulc_any N E F A A2 c c2 W N1 N2 hW hW2 hck hck2).mono fun e w' ⟨v, he, ho, hb⟩ => ?_
            obtain ⟨A5, c5, rfl, hr⟩ := own_rdz ho
            exact ⟨A5, c5, he, hr, hb⟩
          have HRm : Hid (∀ W : World, RdZ W W.heap.size A c E → RdZ W W.heap.size A2 c2 F → Calls Try.prog 40 #[.agg #[.int .i64 (N : Int), .slice A E.length c], .agg #[.int .i64 (N : Int), .slice A2 F.length c2]] W fun e w' => ∃ A5 c5, e = .returned (.agg #[.int .i64 (N : Int), .slice A5 (mulCE N E F).length c5]) ∧ RdZ w' w'.heap.size A5 c5 (mulCE N E F) ∧ Below W.heap.size W w') := fun W hW hW2 => by
            refine (rmulc_any N E F A A2 c c2 W N1 N2 hW hW2 hck hck2).mono fun e w' ⟨v, he, ho, hb⟩ => ?_
            obtain ⟨A5, c5, rfl, hr⟩ := own_rdz ho
            exact ⟨A5, c5, he, hr, hb⟩
          have HSm := Lib.hid (fun (A1 A2 : Option Addr) (c1 c2 B1 B2 : Nat) (W : World) h1 h2 h3 h4 => csame_any (N : Int) (mulCE N E F) A1 A2 c1 c2 B1 B2 W h1 h2 h3 h4)
          clear h1 h2 hck hck2 hE hF
          generalize mulCE N E F = LM at *
          generalize conE N E = LC at *
          go_enter Try.func9, Try.ntmps9
          go_upto_region 6 with (first
            | (go_at_call 13; ((with_reducible refine (HA.out _).mono ?_); rintro e v1 ⟨rfl, hb⟩; have B1 := Lib.hid (B0.out.trans (hb.mono B0.out.size)); have X1 := Lib.hid (block_below X0.out hb); have Y1 := Lib.hid (block_below Y0.out hb); clear x0 x1 y0 y1 hb; obtain ⟨x0, x1, _⟩ := cells_two X1.out; obtain ⟨y0, y1, _⟩ := cells_two Y1.out))
            | (go_at_call 37; ((with_reducible refine (HMu.out _ (HE0.out _ B1.out) (HF0.out _ B1.out)).mono ?_); rintro e v2 ⟨A5, c5, rfl, hrm, hb⟩; have B2 := Lib.hid (B1.out.trans (hb.mono B1.out.size)); have X2 := Lib.hid (block_below X1.out hb); have Y2 := Lib.hid (block_below Y1.out hb); have PM2 := Lib.hid hrm; clear hrm; clear x0 x1 y0 y1 hb))
            | fail)
          have M3 := Lib.hid (heap_alloc_new v2 (.cells #[.int .i64 (N : Int), .slice A5 LM.length c5] 33))
          have X3 := Lib.hid (block_alloc X2.out (.cells #[.int .i64 (N : Int), .slice A5 LM.length c5] 33))
          have Y3 := Lib.hid (block_alloc Y2.out (.cells #[.int .i64 (N : Int), .slice A5 LM.length c5] 33))
          have B3 : Hid (Below w.heap.size w (v2.alloc (.cells #[.int .i64 (N : Int), .slice A5 LM.length c5] 33))) := B2.out.alloc B2.out.size _
          have PM3 := Lib.hid ((PM2.out.below (below1 v2 (.cells #[.int .i64 (N : Int), .slice A5 LM.length c5] 33))).mono (below1 v2 (.cells #[.int .i64 (N : Int), .slice A5 LM.length c5] 33)).size)
          generalize v2.alloc (.cells #[.int .i64 (N : Int), .slice A5 LM.length c5] 33) = v3 at *
          generalize v2.heap.size = mb at *
          obtain ⟨x0, x1, _⟩ := cells_two X3.out
          obtain ⟨y0, y1, _⟩ := cells_two Y3.out
          go_upto_region 7 with (first
            | (go_at_call 38; ((with_reducible refine (HCo.out _ (HE0.out _ B3.out)).mono ?_); rintro e v4 ⟨A6, c6, rfl, hrc, hb⟩; have B4 := Lib.hid (B3.out.trans (hb.mono B3.out.size)); have X4 := Lib.hid (block_below X3.out hb); have Y4 := Lib.hid (block_below Y3.out hb); have M4 := Lib.hid (block_below M3.out hb); have PC4 := Lib.hid hrc; clear hrc; have PM4 := Lib.hid ((PM3.out.below hb).mono hb.size); clear x0 x1 y0 y1 hb))
            | fail)
          have C5 := Lib.hid (heap_alloc_new v4 (.cells #[.int .i64 (N : Int), .slice A6 LC.length c6] 33))
          have X5 := Lib.hid (block_alloc X4.out (.cells #[.int .i64 (N : Int), .slice A6 LC.length c6] 33))
          have Y5 := Lib.hid (block_alloc Y4.out (.cells #[.int .i64 (N : Int), .slice A6 LC.length c6] 33))
          have M5 := Lib.hid (block_alloc M4.out (.cells #[.int .i64 (N : Int), .slice A6 LC.length c6] 33))
          have B5 : Hid (Below w.heap.size w (v4.alloc (.cells #[.int .i64 (N : Int), .slice A6 LC.length c6] 33))) := B4.out.alloc B4.out.size _
          have PC5 := Lib.hid ((PC4.out.below (below1 v4 (.cells #[.int .i64 (N : Int), .slice A6 LC.length c6] 33))).mono (below1 v4 (.cells #[.int .i64 (N : Int), .slice A6 LC.length c6] 33)).size)
          have PM5 := Lib.hid ((PM4.out.below (below1 v4 (.cells #[.int .i64 (N : Int), .slice A6 LC.length c6] 33))).mono (below1 v4 (.cells #[.int .i64 (N : Int), .slice A6 LC.length c6] 33)).size)
          generalize v4.alloc (.cells #[.int .i64 (N : Int), .slice A6 LC.length c6] 33) = v5 at *
          generalize v4.heap.size = cb at *
          obtain ⟨x0, x1, _⟩ := cells_two X5.out
          obtain ⟨y0, y1, _⟩ := cells_two Y5.out
          obtain ⟨m0, m1', _⟩ := cells_two M5.out
          obtain ⟨cc0, cc1, _⟩ := cells_two C5.out
          go_upto_region 10 with (first
            | (go_at_call 23; ((with_reducible refine (HG1.out _ (HE0.out _ B5.out)).mono ?_); rintro e v6 ⟨rfl, hb⟩; have D6 := Lib.hid hb; have B6 := Lib.hid (B5.out.trans (hb.mono B5.out.size)); have X6 := Lib.hid (block_below X5.out hb); have Y6 := Lib.hid (block_below Y5.out hb); have M6 := Lib.hid (block_below M5.out hb); have C6 := Lib.hid (block_below C5.out hb); have PC6 := Lib.hid ((PC5.out.below hb).mono hb.size); have PM6 := Lib.hid ((PM5.out.below hb).mono hb.size); clear x0 x1 y0 y1 m0 m1' cc0 cc1 hb))
            | fail)
          have HKc : Hid (∀ W, Below v6.heap.size v6 W → W.cell? ⟨cb, 0, none⟩ = some (.int .i64 (N : Int)) ∧ W.cell? ⟨cb, 1, none⟩ = some (.slice A6 LC.length c6) ∧ W.cell? ⟨w.heap.size, 0, none⟩ = some (.int .i64 (N : Int)) ∧ W.cell? ⟨w.heap.size, 1, none⟩ = some (.slice A E.length c)) := fun W hW => ⟨(cells_two (block_below C6.out hW)).1, (cells_two (block_below C6.out hW)).2.1, (cells_two (block_below X6.out hW)).1, (cells_two (block_below X6.out hW)).2.1⟩
          have E6 : Hid (Below v6.heap.size v6 v6.drew) := Below.drew (Below.refl _ _)
          go_region_held3 (fun W => W.cell? ⟨cb, 0, none⟩ = some (.int .i64 (N : Int)) ∧ W.cell? ⟨cb, 1, none⟩ = some (.slice A6 LC.length c6) ∧ W.cell? ⟨w.heap.size, 0, none⟩ = some (.int .i64 (N : Int)) ∧ W.cell? ⟨w.heap.size, 1, none⟩ = some (.slice A E.length c))
            (with_reducible first | exact HKc.out _ E8.out | exact HKc.out _ E7.out | exact HKc.out _ E6.out | fail)
            (first
              | (go_at_call 39; ((with_reducible refine (HRo.out _ (HE0.out _ (B6.out.trans (E6.out.mono B6.out.size)))).mono ?_); rintro e v7 ⟨A7, c7, rfl, hr7, hb⟩; have E7 := Lib.hid (E6.out.trans (hb.mono E6.out.size)); have P7 := Lib.hid hr7; clear hr7 hb))
              | (go_at_call 30; ((with_reducible refine (HSc.out _ _ _ _ _ _ _ ((PC6.out.below E7.out).mono E7.out.size) P7.out (Nat.le_refl _) (Nat.le_refl _)).mono ?_); rintro e v8 ⟨rfl, hb⟩; have E8 := Lib.hid (E7.out.trans (hb.mono E7.out.size)); clear hb))
              | fail)
          have B8 := Lib.hid (B6.out.trans (E8.out.mono B6.out.size))
          have X8 := Lib.hid (block_below X6.out E8.out)
          have Y8 := Lib.hid (block_below Y6.out E8.out)
          have M8 := Lib.hid (block_below M6.out E8.out)
          have PM8 := Lib.hid ((PM6.out.below E8.out).mono E8.out.size)
          obtain ⟨x0, x1, _⟩ := cells_two X8.out
          obtain ⟨y0, y1, _⟩ := cells_two Y8.out
          obtain ⟨m0, m1', _⟩ := cells_two M8.out
          go_upto_region 17 with (first
            | (go_at_call 23; ((with_reducible refine (HG2.out _ (HF0.out _ B8.out)).mono ?_); rintro e v9 ⟨rfl, hb⟩; have E9 := Lib.hid hb; have B9 := Lib.hid (B8.out.trans (hb.mono B8.out.size)); have X9 := Lib.hid (block_below X8.out hb); have Y9 := Lib.hid (block_below Y8.out hb); have M9 := Lib.hid (block_below M8.out hb); have PM9 := Lib.hid ((PM8.out.below hb).mono hb.size); clear x0 x1 y0 y1 m0 m1' hb; obtain ⟨x0, x1, _⟩ := cells_two X9.out; obtain ⟨y0, y1, _⟩ := cells_two Y9.out; obtain ⟨m0, m1', _⟩ := cells_two M9.out))
            | fail)
          have HKd : Hid (∀ W, Below v9.heap.size v9 W → W.cell? ⟨mb, 0, none⟩ = some (.int .i64 (N : Int)) ∧ W.cell? ⟨mb, 1, none⟩ = some (.slice A5 LM.length c5) ∧ W.cell? ⟨w.heap.size, 0, none⟩ = some (.int .i64 (N : Int)) ∧ W.cell? ⟨w.heap.size, 1, none⟩ = some (.slice A E.length c) ∧ W.cell? ⟨w.heap.size + 1, 0, none⟩ = some (.int .i64 (N : Int)) ∧ W.cell? ⟨w.heap.size + 1, 1, none⟩ = some (.slice A2 F.length c2)) := fun W hW => ⟨(cells_two (block_below M9.out hW)).1, (cells_two (block_below M9.out hW)).2.1, (cells_two (block_below X9.out hW)).1, (cells_two (block_below X9.out hW)).2.1, (cells_two (block_below Y9.out hW)).1, (cells_two (block_below Y9.out hW)).2.1⟩
          have G9 : Hid (Below v9.heap.size v9 v9.drew) := Below.drew (Below.refl _ _)
          clear x0 x1 y0 y1 m0 m1'
          go_region_held3 (fun W => W.cell? ⟨mb, 0, none⟩ = some (.int .i64 (N : Int)) ∧ W.cell? ⟨mb, 1, none⟩ = some (.slice A5 LM.length c5) ∧ W.cell? ⟨w.heap.size, 0, none⟩ = some (.int .i64 (N : Int)) ∧ W.cell? ⟨w.heap.size, 1, none⟩ = some (.slice A E.length c) ∧ W.cell? ⟨w.heap.size + 1, 0, none⟩ = some (.int .i64 (N : Int)) ∧ W.cell? ⟨w.heap.size + 1, 1, none⟩ = some (.slice A2 F.length c2))
            (with_reducible first | exact HKd.out _ G11.out | exact HKd.out _ G10.out | exact HKd.out _ G9.out | fail)
            (first
              | (go_at_call 40; ((with_reducible refine (HRm.out _ (HE0.out _ (B9.out.trans (G9.out.mono B9.out.size))) (HF0.out _ (B9.out.trans (G9.out.mono B9.out.size)))).mono ?_); rintro e v10 ⟨A10, c10, rfl, hr10, hb⟩; have G10 := Lib.hid (G9.out.trans (hb.mono G9.out.size)); have P10 := Lib.hid hr10; clear hr10 hb))
              | (go_at_call 30; ((with_reducible refine (HSm.out _ _ _ _ _ _ _ ((PM9.out.below G10.out).mono G10.out.size) P10.out (Nat.le_refl _) (Nat.le_refl _)).mono ?_); rintro e v11 ⟨rfl, hb⟩; have G11 := Lib.hid (G10.out.trans (hb.mono G10.out.size)); clear hb))
              | fail)
          have HBf := Lib.hid (B9.out.trans (G11.out.mono B9.out.size))
          go_wp2
          go_ret
          exact ⟨by first | rfl | simp, HBf.out⟩
        · have HMu := Lib.hid (fun (W : World) hW hW2 => pmul_dif (N : Int) n2 E F A A2 c c2 W hW hW2 h1 h2 h3)
          have hdf : ((N : Int) != n2) = true := by rw [bne_iff_ne]; exact h3
          clear h1 h2 h3 hck hE hF
          generalize conE N E = LC at *
          go_enter Try.func9, Try.ntmps9
          go_upto_region 6 with (first
            | (go_at_call 13; ((with_reducible refine (HA.out _).mono ?_); rintro e v1 ⟨rfl, hb⟩; have B1 := Lib.hid (B0.out.trans (hb.mono B0.out.size)); have X1 := Lib.hid (block_below X0.out hb); have Y1 := Lib.hid (block_below Y0.out hb); clear x0 x1 y0 y1 hb; obtain ⟨x0, x1, _⟩ := cells_two X1.out; obtain ⟨y0, y1, _⟩ := cells_two Y1.out))
            | (go_at_call 37; ((with_reducible refine (HMu.out _ (HE0.out _ B1.out) (HF0.out _ B1.out)).mono ?_); rintro e v2 ⟨rfl, hb⟩; have B2 := Lib.hid (B1.out.trans (hb.mono B1.out.size)); have X2 := Lib.hid (block_below X1.out hb); have Y2 := Lib.hid (block_below Y1.out hb); clear x0 x1 y0 y1 hb))
            | fail)
          have M3 := Lib.hid (heap_alloc_new v2 (.cells #[.int .i64 0, .slice none 0 0] 33))
          have X3 := Lib.hid (block_alloc X2.out (.cells #[.int .i64 0, .slice none 0 0] 33))
          have Y3 := Lib.hid (block_alloc Y2.out (.cells #[.int .i64 0, .slice none 0 0] 33))
          have B3 : Hid (Below w.heap.size w (v2.alloc (.cells #[.int .i64 0, .slice none 0 0] 33))) := B2.out.alloc B2.out.size _
          generalize v2.alloc (.cells #[.int .i64 0, .slice none 0 0] 33) = v3 at *
          generalize v2.heap.size = mb at *
          obtain ⟨x0, x1, _⟩ := cells_two X3.out
          obtain ⟨y0, y1, _⟩ := cells_two Y3.out
          go_upto_region 7 with (first
            | (go_at_call 38; ((with_reducible refine (HCo.out _ (HE0.out _ B3.out)).mono ?_); rintro e v4 ⟨A6, c6, rfl, hrc, hb⟩; have B4 := Lib.hid (B3.out.trans (hb.mono B3.out.size)); have X4 := Lib.hid (block_below X3.out hb); have Y4 := Lib.hid (block_below Y3.out hb); have M4 := Lib.hid (block_below M3.out hb); have PC4 := Lib.hid hrc; clear hrc; clear x0 x1 y0 y1 hb))
            | fail)
          have C5 := Lib.hid (heap_alloc_new v4 (.cells #[.int .i64 (N : Int), .slice A6 LC.length c6] 33))
          have X5 := Lib.hid (block_alloc X4.out (.cells #[.int .i64 (N : Int), .slice A6 LC.length c6] 33))
          have Y5 := Lib.hid (block_alloc Y4.out (.cells #[.int .i64 (N : Int), .slice A6 LC.length c6] 33))
          have M5 := Lib.hid (block_alloc M4.out (.cells #[.int .i64 (N : Int), .slice A6 LC.length c6] 33))
          have B5 : Hid (Below w.heap.size w (v4.alloc (.cells #[.int .i64 (N : Int), .slice A6 LC.length c6] 33))) := B4.out.alloc B4.out.size _
          have PC5 := Lib.hid ((PC4.out.below (below1 v4 (.cells #[.int .i64 (N : Int), .slice A6 LC.length c6] 33))).mono (below1 v4 (.cells #[.int .i64 (N : Int), .slice A6 LC.length c6] 33)).size)
          generalize v4.alloc (.cells #[.int .i64 (N : Int), .slice A6 LC.length c6] 33) = v5 at *
          generalize v4.heap.size = cb at *
          obtain ⟨x0, x1, _⟩ := cells_two X5.out
          obtain ⟨y0, y1, _⟩ := cells_two Y5.out
          obtain ⟨m0, m1', _⟩ := cells_two M5.out
          obtain ⟨cc0, cc1, _⟩ := cells_two C5.out
          go_upto_region 10 with (first
            | (go_at_call 23; ((with_reducible refine (HG1.out _ (HE0.out _ B5.out)).mono ?_); rintro e v6 ⟨rfl, hb⟩; have D6 := Lib.hid hb; have B6 := Lib.hid (B5.out.trans (hb.mono B5.out.size)); have X6 := Lib.hid (block_below X5.out hb); have Y6 := Lib.hid (block_below Y5.out hb); have M6 := Lib.hid (block_below M5.out hb); have C6 := Lib.hid (block_below C5.out hb); have PC6 := Lib.hid ((PC5.out.below hb).mono hb.size); clear x0 x1 y0 y1 m0 m1' cc0 cc1 hb))
            | fail)
          have HKc : Hid (∀ W, Below v6.heap.size v6 W → W.cell? ⟨cb, 0, none⟩ = some (.int .i64 (N : Int)) ∧ W.cell? ⟨cb, 1, none⟩ = some (.slice A6 LC.length c6) ∧ W.cell? ⟨w.heap.size, 0, none⟩ = some (.int .i64 (N : Int)) ∧ W.cell? ⟨w.heap.size, 1, none⟩ = some (.slice A E.length c)) := fun W hW => ⟨(cells_two (block_below C6.out hW)).1, (cells_two (block_below C6.out hW)).2.1, (cells_two (block_below X6.out hW)).1, (cells_two (block_below X6.out hW)).2.1⟩
          have E6 : Hid (Below v6.heap.size v6 v6.drew) := Below.drew (Below.refl _ _)
          go_region_held3 (fun W => W.cell? ⟨cb, 0, none⟩ = some (.int .i64 (N : Int)) ∧ W.cell? ⟨cb, 1, none⟩ = some (.slice A6 LC.length c6) ∧ W.cell? ⟨w.heap.size, 0, none⟩ = some (.int .i64 (N : Int)) ∧ W.cell? ⟨w.heap.size, 1, none⟩ = some (.slice A E.length c))
            (with_reducible first | exact HKc.out _ E8.out | exact HKc.out _ E7.out | exact HKc.out _ E6.out | fail)
            (first
              | (go_at_call 39; ((with_reducible refine (HRo.out _ (HE0.out _ (B6.out.trans (E6.out.mono B6.out.size)))).mono ?_); rintro e v7 ⟨A7, c7, rfl, hr7, hb⟩; have E7 := Lib.hid (E6.out.trans (hb.mono E6.out.size)); have P7 := Lib.hid hr7; clear hr7 hb))
              | (go_at_call 30; ((with_reducible refine (HSc.out _ _ _ _ _ _ _ ((PC6.out.below E7.out).mono E7.out.size) P7.out (Nat.le_refl _) (Nat.le_refl _)).mono ?_); rintro e v8 ⟨rfl, hb⟩; have E8 := Lib.hid (E7.out.trans (hb.mono E7.out.size)); clear hb))
              | fail)
          have B8 := Lib.hid (B6.out.trans (E8.out.mono B6.out.size))
          have X8 := Lib.hid (block_below X6.out E8.out)
          have Y8 := Lib.hid (block_below Y6.out E8.out)
          have M8 := Lib.hid (block_below M6.out E8.out)
          obtain ⟨x0, x1, _⟩ := cells_two X8.out
          obtain ⟨y0, y1, _⟩ := cells_two Y8.out
          obtain ⟨m0, m1', _⟩ := cells_two M8.out
          go_wp2_with (first
            | (go_at_call 23; ((with_reducible refine (HG2.out _ (HF0.out _ B8.out)).mono ?_); rintro e v9 ⟨rfl, hb⟩; have E9 := Lib.hid hb; have B9 := Lib.hid (B8.out.trans (hb.mono B8.out.size)); have X9 := Lib.hid (block_below X8.out hb); have Y9 := Lib.hid (block_below Y8.out hb); have M9 := Lib.hid (block_below M8.out hb); clear x0 x1 y0 y1 m0 m1' hb; obtain ⟨x0, x1, _⟩ := cells_two X9.out; obtain ⟨y0, y1, _⟩ := cells_two Y9.out; obtain ⟨m0, m1', _⟩ := cells_two M9.out))
            | (go_at_call 30; ((with_reducible refine (HS0.out _).mono ?_); rintro e v10 ⟨rfl, hb⟩; have B10 := Lib.hid (B9.out.trans (hb.mono B9.out.size)); clear hb))
            | fail)
          go_ret
          exact ⟨by first | rfl | simp, B10.out⟩
      · have HMu := Lib.hid (fun (W : World) hW hW2 => pmul_bad2 (N : Int) n2 E F A A2 c c2 W hW hW2 h1 h2)
        have hk2 : (chkV n2 F != 0) = true := by rw [bne_iff_ne]; exact h2
        have hk3 : (chkV n2 F == 0) = false := by rw [beq_eq_false_iff_ne]; exact h2
        clear h1 h2 hck hE hF
        generalize conE N E = LC at *
        generalize chkV n2 F = K at *
        go_enter Try.func9, Try.ntmps9
        go_upto_region 6 with (first
          | (go_at_call 13; ((with_reducible refine (HA.out _).mono ?_); rintro e v1 ⟨rfl, hb⟩; have B1 := Lib.hid (B0.out.trans (hb.mono B0.out.size)); have X1 := Lib.hid (block_below X0.out hb); have Y1 := Lib.hid (block_below Y0.out hb); clear x0 x1 y0 y1 hb; obtain ⟨x0, x1, _⟩ := cells_two X1.out; obtain ⟨y0, y1, _⟩ := cells_two Y1.out))
          | (go_at_call 37; ((with_reducible refine (HMu.out _ (HE0.out _ B1.out) (HF0.out _ B1.out)).mono ?_); rintro e v2 ⟨rfl, hb⟩; have B2 := Lib.hid (B1.out.trans (hb.mono B1.out.size)); have X2 := Lib.hid (block_below X1.out hb); have Y2 := Lib.hid (block_below Y1.out hb); clear x0 x1 y0 y1 hb))
          | fail)
        have M3 := Lib.hid (heap_alloc_new v2 (.cells #[.int .i64 0, .slice none 0 0] 33))
        have X3 := Lib.hid (block_alloc X2.out (.cells #[.int .i64 0, .slice none 0 0] 33))
        have Y3 := Lib.hid (block_alloc Y2.out (.cells #[.int .i64 0, .slice none 0 0] 33))
        have B3 : Hid (Below w.heap.size w (v2.alloc (.cells #[.int .i64 0, .slice none 0 0] 33))) := B2.out.alloc B2.out.size _
        generalize v2.alloc (.cells #[.int .i64 0, .slice none 0 0] 33) = v3 at *
        generalize v2.heap.size = mb at *
        obtain ⟨x0, x1, _⟩ := cells_two X3.out
        obtain ⟨y0, y1, _⟩ := cells_two Y3.out
        go_upto_region 7 with (first
          | (go_at_call 38; ((with_reducible refine (HCo.out _ (HE0.out _ B3.out)).mono ?_); rintro e v4 ⟨A6, c6, rfl, hrc, hb⟩; have B4 := Lib.hid (B3.out.trans (hb.mono B3.out.size)); have X4 := Lib.hid (block_below X3.out hb); have Y4 := Lib.hid (block_below Y3.out hb); have M4 := Lib.hid (block_below M3.out hb); have PC4 := Lib.hid hrc; clear hrc; clear x0 x1 y0 y1 hb))
          | fail)
        have C5 := Lib.hid (heap_alloc_new v4 (.cells #[.int .i64 (N : Int), .slice A6 LC.length c6] 33))
        have X5 := Lib.hid (block_alloc X4.out (.cells #[.int .i64 (N : Int), .slice A6 LC.length c6] 33))
        have Y5 := Lib.hid (block_alloc Y4.out (.cells #[.int .i64 (N : Int), .slice A6 LC.length c6] 33))
        have M5 := Lib.hid (block_alloc M4.out (.cells #[.int .i64 (N : Int), .slice A6 LC.length c6] 33))
        have B5 : Hid (Below w.heap.size w (v4.alloc (.cells #[.int .i64 (N : Int), .slice A6 LC.length c6] 33))) := B4.out.alloc B4.out.size _
        have PC5 := Lib.hid ((PC4.out.below (below1 v4 (.cells #[.int .i64 (N : Int), .slice A6 LC.length c6] 33))).mono (below1 v4 (.cells #[.int .i64 (N : Int), .slice A6 LC.length c6] 33)).size)
        generalize v4.alloc (.cells #[.int .i64 (N : Int), .slice A6 LC.length c6] 33) = v5 at *
        generalize v4.heap.size = cb at *
        obtain ⟨x0, x1, _⟩ := cells_two X5.out
        obtain ⟨y0, y1, _⟩ := cells_two Y5.out
        obtain ⟨m0, m1', _⟩ := cells_two M5.out
        obtain ⟨cc0, cc1, _⟩ := cells_two C5.out
        go_upto_region 10 with (first
          | (go_at_call 23; ((with_reducible refine (HG1.out _ (HE0.out _ B5.out)).mono ?_); rintro e v6 ⟨rfl, hb⟩; have D6 := Lib.hid hb; have B6 := Lib.hid (B5.out.trans (hb.mono B5.out.size)); have X6 := Lib.hid (block_below X5.out hb); have Y6 := Lib.hid (block_below Y5.out hb); have M6 := Lib.hid (block_below M5.out hb); have C6 := Lib.hid (block_below C5.out hb); have PC6 := Lib.hid ((PC5.out.below hb).mono hb.size); clear x0 x1 y0 y1 m0 m1' cc0 cc1 hb))
          | fail)
        have HKc : Hid (∀ W, Below v6.heap.size v6 W → W.cell? ⟨cb, 0, none⟩ = some (.int .i64 (N : Int)) ∧ W.cell? ⟨cb, 1, none⟩ = some (.slice A6 LC.length c6) ∧ W.cell? ⟨w.heap.size, 0, none⟩ = some (.int .i64 (N : Int)) ∧ W.cell? ⟨w.heap.size, 1, none⟩ = some (.slice A E.length c)) := fun W hW => ⟨(cells_two (block_below C6.out hW)).1, (cells_two (block_below C6.out hW)).2.1, (cells_two (block_below X6.out hW)).1, (cells_two (block_below X6.out hW)).2.1⟩
        have E6 : Hid (Below v6.heap.size v6 v6.drew) := Below.drew (Below.refl _ _)
        go_region_held3 (fun W => W.cell? ⟨cb, 0, none⟩ = some (.int .i64 (N : Int)) ∧ W.cell? ⟨cb, 1, none⟩ = some (.slice A6 LC.length c6) ∧ W.cell? ⟨w.heap.size, 0, none⟩ = some (.int .i64 (N : Int)) ∧ W.cell? ⟨w.heap.size, 1, none⟩ = some (.slice A E.length c))
          (with_reducible first | exact HKc.out _ E8.out | exact HKc.out _ E7.out | exact HKc.out _ E6.out | fail)
          (first
            | (go_at_call 39; ((with_reducible refine (HRo.out _ (HE0.out _ (B6.out.trans (E6.out.mono B6.out.size)))).mono ?_); rintro e v7 ⟨A7, c7, rfl, hr7, hb⟩; have E7 := Lib.hid (E6.out.trans (hb.mono E6.out.size)); have P7 := Lib.hid hr7; clear hr7 hb))
            | (go_at_call 30; ((with_reducible refine (HSc.out _ _ _ _ _ _ _ ((PC6.out.below E7.out).mono E7.out.size) P7.out (Nat.le_refl _) (Nat.le_refl _)).mono ?_); rintro e v8 ⟨rfl, hb⟩; have E8 := Lib.hid (E7.out.trans (hb.mono E7.out.size)); clear hb))
            | fail)
        have B8 := Lib.hid (B6.out.trans (E8.out.mono B6.out.size))
        have X8 := Lib.hid (block_below X6.out E8.out)
        have Y8 := Lib.hid (block_below Y6.out E8.out)
        have M8 := Lib.hid (block_below M6.out E8.out)
        obtain ⟨x0, x1, _⟩ := cells_two X8.out
        obtain ⟨y0, y1, _⟩ := cells_two Y8.out
        obtain ⟨m0, m1', _⟩ := cells_two M8.out
        go_wp2_with (first
          | (go_at_call 23; ((with_reducible refine (HG2.out _ (HF0.out _ B8.out)).mono ?_); rintro e v9 ⟨rfl, hb⟩; have E9 := Lib.hid hb; have B9 := Lib.hid (B8.out.trans (hb.mono B8.out.size)); have X9 := Lib.hid (block_below X8.out hb); have Y9 := Lib.hid (block_below Y8.out hb); have M9 := Lib.hid (block_below M8.out hb); clear x0 x1 y0 y1 m0 m1' hb; obtain ⟨x0, x1, _⟩ := cells_two X9.out; obtain ⟨y0, y1, _⟩ := cells_two Y9.out; obtain ⟨m0, m1', _⟩ := cells_two M9.out))
          | (go_at_call 30; ((with_reducible refine (HS0.out _).mono ?_); rintro e v10 ⟨rfl, hb⟩; have B10 := Lib.hid (B9.out.trans (hb.mono B9.out.size)); clear hb))
          | fail)
        go_ret
        exact ⟨by first | rfl | simp, B10.out⟩
    · have HMu := Lib.hid (fun (W : World) hW hW2 => pmul_bad1 n n2 E F A A2 c c2 W hW hW2 h1)
      have HCo := Lib.hid (fun (W : World) hW => pconj_bad n E A c W hW h1)
      have hk2 : (chkV n E != 0) = true := by rw [bne_iff_ne]; exact h1
      clear h1 hE hF
      generalize chkV n E = K at *
      go_enter Try.func9, Try.ntmps9
      go_upto_region 6 with (first
        | (go_at_call 13; ((with_reducible refine (HA.out _).mono ?_); rintro e v1 ⟨rfl, hb⟩; have B1 := Lib.hid (B0.out.trans (hb.mono B0.out.size)); have X1 := Lib.hid (block_below X0.out hb); have Y1 := Lib.hid (block_below Y0.out hb); clear x0 x1 y0 y1 hb; obtain ⟨x0, x1, _⟩ := cells_two X1.out; obtain ⟨y0, y1, _⟩ := cells_two Y1.out))
        | (go_at_call 37; ((with_reducible refine (HMu.out _ (HE0.out _ B1.out) (HF0.out _ B1.out)).mono ?_); rintro e v2 ⟨rfl, hb⟩; have B2 := Lib.hid (B1.out.trans (hb.mono B1.out.size)); have X2 := Lib.hid (block_below X1.out hb); have Y2 := Lib.hid (block_below Y1.out hb); clear x0 x1 y0 y1 hb))
        | fail)
      have M3 := Lib.hid (heap_alloc_new v2 (.cells #[.int .i64 0, .slice none 0 0] 33))
      have X3 := Lib.hid (block_alloc X2.out (.cells #[.int .i64 0, .slice none 0 0] 33))
      have Y3 := Lib.hid (block_alloc Y2.out (.cells #[.int .i64 0, .slice none 0 0] 33))
      have B3 : Hid (Below w.heap.size w (v2.alloc (.cells #[.int .i64 0, .slice none 0 0] 33))) := B2.out.alloc B2.out.size _
      generalize v2.alloc (.cells #[.int .i64 0, .slice none 0 0] 33) = v3 at *
      generalize v2.heap.size = mb at *
      obtain ⟨x0, x1, _⟩ := cells_two X3.out
      obtain ⟨y0, y1, _⟩ := cells_two Y3.out
      go_upto_region 7 with (first
        | (go_at_call 38; ((with_reducible refine (HCo.out _ (HE0.out _ B3.out)).mono ?_); rintro e v4 ⟨rfl, hb⟩; have B4 := Lib.hid (B3.out.trans (hb.mono B3.out.size)); have X4 := Lib.hid (block_below X3.out hb); have Y4 := Lib.hid (block_below Y3.out hb); have M4 := Lib.hid (block_below M3.out hb); clear x0 x1 y0 y1 hb))
        | fail)
      have C5 := Lib.hid (heap_alloc_new v4 (.cells #[.int .i64 0, .slice none 0 0] 33))
      have X5 := Lib.hid (block_alloc X4.out (.cells #[.int .i64 0, .slice none 0 0] 33))
      have Y5 := Lib.hid (block_alloc Y4.out (.cells #[.int .i64 0, .slice none 0 0] 33))
      have M5 := Lib.hid (block_alloc M4.out (.cells #[.int .i64 0, .slice none 0 0] 33))
      have B5 : Hid (Below w.heap.size w (v4.alloc (.cells #[.int .i64 0, .slice none 0 0] 33))) := B4.out.alloc B4.out.size _
      generalize v4.alloc (.cells #[.int .i64 0, .slice none 0 0] 33) = v5 at *
      generalize v4.heap.size = cb at *
      obtain ⟨x0, x1, _⟩ := cells_two X5.out
      obtain ⟨y0, y1, _⟩ := cells_two Y5.out
      obtain ⟨m0, m1', _⟩ := cells_two M5.out
      obtain ⟨cc0, cc1, _⟩ := cells_two C5.out
      go_wp2_with (first
        | (go_at_call 23; ((with_reducible refine (HG1.out _ (HE0.out _ B5.out)).mono ?_); rintro e v6 ⟨rfl, hb⟩; have B6 := Lib.hid (B5.out.trans (hb.mono B5.out.size)); have M6 := Lib.hid (block_below M5.out hb); have C6 := Lib.hid (block_below C5.out hb); clear x0 x1 y0 y1 m0 m1' cc0 cc1 hb; obtain ⟨m0, m1', _⟩ := cells_two M6.out; obtain ⟨cc0, cc1, _⟩ := cells_two C6.out))
        | (go_at_call 30; first
            | (have _ := M6; (with_reducible refine (HS0.out _).mono ?_); rintro e v7 ⟨rfl, hb⟩; have B7 := Lib.hid (B6.out.trans (hb.mono B6.out.size)); have C7 := Lib.hid (block_below C6.out hb); clear m0 m1' cc0 cc1 hb; obtain ⟨cc0, cc1, _⟩ := cells_two C7.out; clear M6)
            | ((with_reducible refine (HS0.out _).mono ?_); rintro e v8 ⟨rfl, hb⟩; have B8 := Lib.hid (B7.out.trans (hb.mono B7.out.size)); clear cc0 cc1 hb)
            | fail)
        | fail)
      go_ret
      exact ⟨by first | rfl | simp, B8.out⟩
end Go.Proofs.Ytlagljnhbhnelaa
namespace Go.Proofs.Ytlagljnhbhnelaa
set_option linter.unusedVariables false

theorem pdL_iff (T : List Int) {f : Nat} (f1 : 1 ≤ f) : ∀ (j a : Nat), T.length ≤ a + j → (pdL T f j a = true ↔ ∀ i, a + i * f < T.length → T.getD (a + i * f) 0 ≤ 0)
  | 0, a, h => by
    show (true = true ↔ _)
    refine ⟨fun _ i hi => ?_, fun _ => rfl⟩
    omega
  | j + 1, a, h => by
    have hd : pdL T f (j + 1) a = if a < T.length then (if 0 < T.getD a 0 then false else pdL T f j (a + f)) else true := rfl
    rw [hd]
    by_cases h1 : a < T.length
    · rw [if_pos h1]
      by_cases h2 : 0 < T.getD a 0
      · rw [if_pos h2]
        refine ⟨fun k => (by cases k), fun k => ?_⟩
        have := k 0 (by omega)
        rw [Nat.zero_mul, Nat.add_zero] at this
        omega
      · rw [if_neg h2, pdL_iff T f1 j (a + f) (by omega)]
        constructor
        · intro k i hi
          cases i with
          | zero => rw [Nat.zero_mul, Nat.add_zero]; omega
          | succ i =>
            have e : a + (i + 1) * f = a + f + i * f := by rw [Nat.add_mul]; omega
            rw [e] at hi ⊢
            exact k i hi
        · intro k i hi
          have e : a + f + i * f = a + (i + 1) * f := by rw [Nat.add_mul]; omega
          rw [e] at hi ⊢
          exact k (i + 1) hi
    · rw [if_neg h1]
      refine ⟨fun _ i hi => ?_, fun _ => rfl⟩
      omega
theorem pdV_iff {T : List Int} {f : Nat} (f1 : 1 ≤ f) : pdV T f = true ↔ T.length % f = 0 ∧ ∀ a, a < T.length → a % f = 1 % f → T.getD a 0 ≤ 0 := by
  unfold pdV
  by_cases h : T.length % f = 0
  · rw [if_pos h, pdL_iff T f1 T.length (1 % f) (by omega)]
    refine ⟨fun k => ⟨h, fun a ha hm => ?_⟩, fun k i hi => k.2 _ hi ?_⟩
    · have e : 1 % f + a / f * f = a := by rw [← hm, Nat.mul_comm]; exact Nat.mod_add_div a f
      have := k (a / f) (by omega)
      rwa [e] at this
    · rw [Nat.add_mul_mod_self_right, Nat.mod_mod]
  · rw [if_neg h]
    exact ⟨fun k => (by cases k), fun k => absurd k.1 h⟩
/-- One number a of the reference's test. -/
def stpC (n : Nat) (T : List Int) (f a : Nat) : Bool := decide (Nat.gcd a n ≠ 1) || (decide ((a - 1) % f ≠ 0) || decide (T.getD (a % n) 0 = 0))
def okC (n : Nat) (T : List Int) (f : Nat) : Nat → Bool
  | 0 => decide (n % f = 0)
  | t + 1 => okC n T f t && stpC n T f (t + 1)
theorem okC_false {n : Nat} {T : List Int} {f t : Nat} (h : okC n T f t = false) : ∀ s, t ≤ s → okC n T f s = false
  | 0, hs => by obtain rfl : t = 0 := by omega
                exact h
  | s + 1, hs => by
    by_cases e : t = s + 1
    · rw [← e]; exact h
    · show (okC n T f s && _) = false
      rw [okC_false h s (by omega)]; rfl
theorem okC_iff {n : Nat} {T : List Int} {f : Nat} : ∀ t, okC n T f t = true ↔ n % f = 0 ∧ ∀ a, 1 ≤ a → a ≤ t → Nat.gcd a n = 1 → (a - 1) % f = 0 → T.getD (a % n) 0 = 0
  | 0 => by
    show decide (n % f = 0) = true ↔ _
    rw [decide_eq_true_eq]
    exact ⟨fun h => ⟨h, fun a h1 h2 => by omega⟩, fun h => h.1⟩
  | t + 1 => by
    show (okC n T f t && stpC n T f (t + 1)) = true ↔ _
    rw [Bool.and_eq_true, okC_iff t]
    unfold stpC
    rw [Bool.or_eq_true, Bool.or_eq_true, decide_eq_true_eq, decide_eq_true_eq, decide_eq_true_eq]
    constructor
    · rintro ⟨⟨h0, h1⟩, h2⟩
      refine ⟨h0, fun a ha hb hg hf => ?_⟩
      by_cases e : a = t + 1
      · subst e
        rcases h2 with h2 | h2 | h2
        · exact absurd hg h2
        · exact absurd hf h2
        · exact h2
      · exact h1 a ha (by omega) hg hf
    · rintro ⟨h0, h1⟩
      refine ⟨⟨h0, fun a ha hb => h1 a ha (by omega)⟩, ?_⟩
      by_cases e1 : Nat.gcd (t + 1) n = 1
      · by_cases e2 : (t + 1 - 1) % f = 0
        · exact .inr (.inr (h1 (t + 1) (by omega) (Nat.le_refl _) e1 e2))
        · exact .inr (.inl e2)
      · exact .inl e1
theorem mod_pred {a f : Nat} (a1 : 1 ≤ a) (f1 : 1 ≤ f) : (a - 1) % f = 0 ↔ a % f = 1 % f := by
  constructor
  · intro h
    have e : a = 1 + f * ((a - 1) / f) := by have := Nat.mod_add_div (a - 1) f; omega
    rw [e, Nat.add_mul_mod_self_left]
  · intro h
    exact Nat.sub_mod_eq_zero_of_mod_eq h
/-- The reference's test is the program's. -/
theorem okC_pdV {n m f : Nat} {T : List Int} (h : ChT n m T) (n1 : 1 ≤ n) (f1 : 1 ≤ f) : okC n T f n = pdV T f := by
  have key : okC n T f n = true ↔ pdV T f = true := by
    rw [okC_iff, pdV_iff f1, h.len]
    constructor
    · rintro ⟨h0, h1⟩
      refine ⟨h0, fun a ha hm => ?_⟩
      by_cases hg : Nat.gcd a n = 1
      · by_cases ha0 : a = 0
        · subst ha0
          rw [Nat.gcd_zero_left] at hg
          subst hg
          have := h1 1 (Nat.le_refl _) (Nat.le_refl _) rfl (Nat.zero_mod _)
          rw [Nat.mod_self] at this
          omega
        · have := h1 a (by omega) (by omega) hg ((mod_pred (by omega) f1).2 hm)
          rw [Nat.mod_eq_of_lt ha] at this
          omega
      · rw [h.no a ha hg]; omega
    · rintro ⟨h0, h1⟩
      refine ⟨h0, fun a ha hb hg hf => ?_⟩
      have hl := Nat.mod_lt a (show 0 < n by omega)
      have hg2 : Nat.gcd (a % n) n = 1 := by rw [gcd_modn]; exact hg
      have h2 := (h.yes (a % n) hl hg2).1
      have h3 := h1 (a % n) hl (by rw [Nat.mod_mod_of_dvd a (Nat.dvd_of_mod_eq_zero h0)]; exact (mod_pred ha f1).1 hf)
      omega
  cases e1 : okC n T f n <;> cases e2 : pdV T f
  · rfl
  · rw [key.2 e2] at e1; cases e1
  · rw [key.1 e1] at e2; cases e2
  · rfl
/-- The modulus itself is a period. -/
theorem pdV_self {n m : Nat} {T : List Int} (h : ChT n m T) (n1 : 1 ≤ n) (h1 : T.getD (1 % n) 0 = 0) : pdV T n = true := by
  rw [pdV_iff n1, h.len]
  refine ⟨Nat.mod_self n, fun a ha hm => ?_⟩
  rw [Nat.mod_eq_of_lt ha] at hm
  rw [hm, h1]; omega
/-- The least period. -/
theorem least_pd {T : List Int} : ∀ (j f : Nat), 1 ≤ f → (∀ g, 1 ≤ g → g < f → pdV T g = false) → pdV T (f + j) = true → ∃ C, 1 ≤ C ∧ C ≤ f + j ∧ pdV T C = true ∧ ∀ g, 1 ≤ g → g < C → pdV T g = false
  | 0, f, f1, hl, h => ⟨f, f1, by omega, h, hl⟩
  | j + 1, f, f1, hl, h => by
    cases e : pdV T f with
    | true => exact ⟨f, f1, by omega, e, hl⟩
    | false =>
      obtain ⟨C, c1, c2, c3, c4⟩ := least_pd j (f + 1) (by omega) (fun g g1 g2 => by
        by_cases k : g = f
        · rw [k]; exact e
        · exact hl g g1 (by omega)) (by rw [show f + 1 + j = f + (j + 1) by omega]; exact h)
      exact ⟨C, c1, by omega, c3, c4⟩
theorem one_zero {n : Nat} {E : List Int} (n1 : 1 ≤ n) (n2 : n ≤ 60) (hl : E.length = (gensV n).length) : (tbV n E).getD (1 % n) 0 = 0 := by
  have h := cht_of n1 n2 hl
  have hlt := Nat.mod_lt 1 (show 0 < n by omega)
  have hg : Nat.gcd (1 % n) n = 1 := by rw [gcd_modn]; exact Nat.gcd_one_left n
  have h1 := h.mul (1 % n) (1 % n) hlt hlt hg hg
  have e : 1 % n * (1 % n) % n = 1 % n := by rw [← Nat.mul_mod, Nat.one_mul]
  rw [e] at h1
  obtain ⟨h2, h3⟩ := h.yes _ hlt hg
  generalize (tbV n E).getD (1 % n) 0 = k at *
  have hm := h.m1
  by_cases hk : k + k < (tbM (gensV n) : Int)
  · rw [Int.emod_eq_of_lt (by omega) hk] at h1; omega
  · have : (k + k) % (tbM (gensV n) : Int) = k + k - (tbM (gensV n) : Int) := by
      rw [← Int.sub_emod_right, Int.emod_eq_of_lt (by omega) (by omega)]
    omega
theorem cond_ex {n : Nat} {E : List Int} (n1 : 1 ≤ n) (n2 : n ≤ 60) (hl : E.length = (gensV n).length) : ∃ C, 1 ≤ C ∧ C ≤ n ∧ pdV (tbV n E) C = true ∧ ∀ g, 1 ≤ g → g < C → pdV (tbV n E) g = false := by
  obtain ⟨C, c1, c2, c3, c4⟩ := least_pd (T := tbV n E) (n - 1) 1 (Nat.le_refl _) (fun g h1 h2 => by omega) (by rw [show 1 + (n - 1) = n by omega]; exact pdV_self (cht_of n1 n2 hl) n1 (one_zero n1 n2 hl))
  exact ⟨C, c1, by omega, c3, c4⟩
theorem rouN_zero {k : Int} {m : Nat} (h0 : 0 ≤ k) (h1 : k < (m : Int)) : rouN k m = 0 ↔ k = 0 := by
  unfold rouN
  rw [if_neg (by omega)]
  obtain ⟨j, rfl⟩ : ∃ j : Nat, k = (j : Int) := ⟨k.toNat, by omega⟩
  rw [Int.toNat_natCast]
  constructor
  · intro h
    have h2 : j / Nat.gcd j m = 0 := by omega
    rcases Nat.eq_zero_or_pos j with e | e
    · omega
    · have := Nat.div_pos (Nat.gcd_le_left m e) (Nat.gcd_pos_of_pos_left m e)
      omega
  · intro h
    have : j = 0 := by omega
    rw [this, Nat.zero_div]; rfl
/-- The order, generator by generator from the first. -/
def odP (G : List (Nat × Nat)) (E : List Int) (j : Nat) : Nat := odF (E.take j) (G.take j) 1
theorem odF_snoc : ∀ (E : List Int) (G : List (Nat × Nat)) (x : Int) (g : Nat × Nat) (a : Nat), E.length = G.length → odF (E ++ [x]) (G ++ [g]) a = Nat.lcm (odF E G a) (g.2 / Nat.gcd g.2 x.toNat)
  | [], [], _, _, _, _ => rfl
  | y :: E, h :: G, x, g, a, hl => odF_snoc E G x g _ (by simpa using hl)
theorem odP_succ {G : List (Nat × Nat)} {E : List Int} {j : Nat} (h : j < G.length) (h2 : j < E.length) : odP G E (j + 1) = Nat.lcm (odP G E j) (G[j].2 / Nat.gcd G[j].2 E[j].toNat) := by
  unfold odP
  rw [List.take_add_one, List.getElem?_eq_getElem h2, List.take_add_one, List.getElem?_eq_getElem h, Option.toList_some, Option.toList_some, odF_snoc _ _ _ _ _ (by rw [List.length_take, List.length_take]; omega)]
theorem odP_dvd {G : List (Nat × Nat)} {E : List Int} {M : Nat} (hl : E.length = G.length) (hM : ∀ k (hk : k < G.length), M % G[k].2 = 0) : ∀ j, j ≤ G.length → odP G E j ∣ M
  | 0, _ => Nat.one_dvd M
  | j + 1, h => by
    rw [odP_succ (by omega) (by omega)]
    refine Nat.lcm_dvd (odP_dvd hl hM j (by omega)) ?_
    exact Nat.dvd_trans (Nat.div_dvd_of_dvd (Nat.gcd_dvd_left _ _)) (Nat.dvd_of_mod_eq_zero (hM j (by omega)))
theorem odP_end {G : List (Nat × Nat)} {E : List Int} (hl : E.length = G.length) : odP G E G.length = odF E G 1 := by
  unfold odP
  rw [List.take_length, ← hl, List.take_length]
end Go.Proofs.Ytlagljnhbhnelaa
namespace Go.Proofs.Ytlagljnhbhnelaa
open Go.RowKit
set_option linter.unusedVariables false
set_option linter.unusedSimpArgs false

theorem chkV_okC {n : Int} {E : List Int} (h : chkV n E = 0) : ∃ N : Nat, n = (N : Int) ∧ 1 ≤ N ∧ (N : Int) ≤ 60 ∧ ckX N E = 0 := by
  unfold chkV at h
  by_cases h1 : 1 ≤ n ∧ n ≤ 60
  · rw [if_pos h1] at h
    exact ⟨n.toNat, by omega, by omega, by omega, h⟩
  · rw [if_neg h1] at h; cases h
theorem addr_add7 (b o k : Nat) : (⟨b, o, none⟩ : Addr).add k = ⟨b, o + k, none⟩ := by unfold Addr.add; split <;> simp_all
/-- The append of a list that came in to an own empty row, as an operation of a drawn region. -/
theorem step_app3 {w : World} {ops : Array Oper} {o : Oper} {a : Act} {K : Act → World → Prop} {Q : Exit → Act → World → Prop} {E : Prop} {B c base : Nat} {A : Option Addr} {l : List Int} {v : Value} (hgd : o.guard = none) (s x : Operand)
    (ho : o.op = .call { callee := .builtin .append, args := #[s, x], argTypes := #[23, 23] })
    (hs : a.eval s = v) (hown : w.ownsRow base 3 1 v 0 []) (hx : a.eval x = .slice A l.length c) (hr : RdZ w B A c l) (hA : A = none → c = 0) (hl : l.length ≤ 17592186044416) (hbase : base ≤ w.heap.size)
    (h : ∀ v' w', w'.ownsRow base 3 1 v' l.length (zs l) → w.grownBy w' v.ownBlock → K (a.put o.dst v') w') : if Region.wanted o (yielded ops a.tmps) = true then Oper.wp Try.prog o a w K Q else E := by
  obtain ⟨i0, hi, hz0, hz1, hz2⟩ := info_parts Try.infoInt
  rw [if_pos (show Region.wanted o (yielded ops a.tmps) = true by simp [Region.wanted, hgd])]
  cases A with
  | none =>
    obtain rfl := hA rfl
    have hl0 : l = [] := by
      rcases Nat.eq_zero_or_pos l.length with h0 | h0
      · exact List.eq_nil_of_length_eq_zero h0
      · obtain ⟨b, o', e, _⟩ := hr.2.2.1 h0
        cases e
    subst hl0
    have hrun := run_append_owned_none (P := Try.prog) (w := w) base 23 o.type 3 i0 1 Try.underlying23 hi v 0 [] hown
    have hx' : a.eval x = .slice none 0 0 := hx
    have hk := h v w hown (World.grownBy.refl w _)
    unfold Oper.wp
    simp [execOp, ho, resolve, invoke, builtin, hs, hx', hrun, Result.andThen]
    exact hk
  | some ad =>
    obtain ⟨b, o', rfl⟩ := hr.2.2.2 ad rfl
    refine wp_append_own w s x 23 ho base 3 i0 (.int .i64 0) 1 8 Try.underlying23 hi hz0 hz1 hz2 rfl (by decide) v 0 [] hs hown ⟨b, o', none⟩ l.length c (zs l) hx (by simp [zs]) (fun j u hj => ?_) (fun u hu => ?_) (by unfold maxLen; omega) (by omega) hbase fun v' w' h1 h2 _ => h v' w' (by simpa using h1) h2
    · have hjl : j < l.length := by
        have := (List.getElem?_eq_some_iff.1 hj).1
        simpa [zs] using this
      obtain ⟨b2, o2, e, _, hc⟩ := hr.at_ hjl
      simp only [Option.some.injEq, Addr.mk.injEq] at e
      obtain ⟨rfl, rfl, _⟩ := e
      rw [zs_get l j hjl] at hj
      rw [addr_add7, hc]
      exact hj
    · obtain ⟨x', _, rfl⟩ := List.mem_map.1 hu
      rfl
theorem own_empty7 (w : World) {g : Nat} (hg : g = w.heap.size) : (w.alloc (.cells #[] 3)).ownsRow g 3 1 (.slice (some ⟨g, 0, none⟩) 0 0) 0 [] := by
  subst hg
  exact ⟨rfl, .inr ⟨w.heap.size, 0, #[], rfl, Nat.le_refl _, heap_alloc_new w _, Nat.le_refl _, by unfold maxLen; omega, rfl, rfl⟩⟩
theorem own_of_block {w : World} {g : Nat} (h : w.heap[g]? = some (.cells #[] 3 (0, 0))) : w.ownsRow g 3 1 (.slice (some ⟨g, 0, none⟩) 0 0) 0 [] :=
  ⟨rfl, .inr ⟨g, 0, #[], rfl, Nat.le_refl _, h, Nat.le_refl _, by unfold maxLen; omega, rfl, rfl⟩⟩

set_option maxHeartbeats 800000 in
set_option maxRecDepth 1000000 in
theorem one_any (z : Bool) (x y : Int) (w : World) : Calls Try.prog 56 #[.agg #[.bool z, .int .i64 x, .int .i64 y]] w fun e w' => e = .returned (.bool (!z && decide (x = 0))) ∧ Below w.heap.size w w' := by
  have X0 : Hid ((w.alloc (.cells #[.bool z, .int .i64 x, .int .i64 y] 48)).heap[w.heap.size]? = some (.cells #[.bool z, .int .i64 x, .int .i64 y] 48 (0, 0))) := heap_alloc_new w _
  have B0 : Hid (Below w.heap.size w (w.alloc (.cells #[.bool z, .int .i64 x, .int .i64 y] 48))) := below1 w _
  obtain ⟨⟨x0, x1, x2⟩, _⟩ := three_of_blockD X0.out
  cases z with
  | true =>
    go_enter Try.func56, Try.ntmps56
    go_wp2
    go_ret
    exact ⟨by first | rfl | simp, B0.out⟩
  | false =>
    by_cases h : x = 0
    · have hx2 : (x == 0) = true := by rw [beq_iff_eq]; exact h
      rw [decide_eq_true h]
      clear h
      go_enter Try.func56, Try.ntmps56
      go_wp2
      go_ret
      exact ⟨by first | rfl | (rw [hx2]; rfl) | simp [hx2], B0.out⟩
    · have hx2 : (x == 0) = false := by rw [beq_eq_false_iff_ne]; exact h
      rw [decide_eq_false h]
      clear h
      go_enter Try.func56, Try.ntmps56
      go_wp2
      go_ret
      exact ⟨by first | rfl | (rw [hx2]; rfl) | simp [hx2], B0.out⟩
set_option maxHeartbeats 3200000 in
set_option maxRecDepth 1000000 in
theorem rcopy28_any (n : Int) (E : List Int) (A : Option Addr) (c : Nat) (w : World) (hE : RdZ w w.heap.size A c E) (hA : A = none → c = 0) (hl : E.length ≤ 1000) :
    Calls Try.prog 19 #[.agg #[.int .i64 n, .slice A E.length c]] w fun e w' => ∃ A' c', e = .returned (.agg #[.int .i64 n, .slice A' E.length c']) ∧ RdZ w' w'.heap.size A' c' E ∧ Below w.heap.size w w' := by
  obtain ⟨W0, hW0⟩ : ∃ W0, W0 = (w.alloc (.cells #[.int .i64 n, .slice A E.length c] 33)).alloc (.cells #[.int .i64 0, .slice none 0 0] 33) := ⟨_, rfl⟩
  have X0 : Hid (W0.heap[w.heap.size]? = some (.cells #[.int .i64 n, .slice A E.length c] 33 (0, 0))) := by rw [hW0]; exact block_alloc (heap_alloc_new w _) _
  have R0 : Hid (W0.heap[w.heap.size + 1]? = some (.cells #[.int .i64 0, .slice none 0 0] 33 (0, 0))) := by
    rw [hW0]
    have := heap_alloc_new (w.alloc (.cells #[.int .i64 n, .slice A E.length c] 33)) (.cells #[.int .i64 0, .slice none 0 0] 33)
    show _ = _; simpa using this
  have B0 : Hid (Below w.heap.size w W0) := by rw [hW0]; exact below2 w _ _
  have HEo := Lib.hid hE
  have HAo := Lib.hid hA
  have hW9 := Lib.hid hW0
  clear hE hA
  go_enter Try.func19, Try.ntmps19
  go_upto_region 1 with fail
  rw [← hW9.out]
  clear hW0 hW9
  have hsz := B0.out.size
  have hxl := lt_of_block X0.out
  have hrl := lt_of_block R0.out
  obtain ⟨k0, k1, kf⟩ := cells_two R0.out
  have HXk : Hid (∀ w' : World, w'.heap[w.heap.size]? = some (.cells #[.int .i64 n, .slice A E.length c] 33 (0, 0)) → w'.cell? ⟨w.heap.size, 0, none⟩ = some (.int .i64 n) ∧ w'.cell? ⟨w.heap.size, 1, none⟩ = some (.slice A E.length c)) := fun w' h => ⟨(cells_two h).1, (cells_two h).2.1⟩
  have XD : Hid (W0.drew.heap[w.heap.size]? = some (.cells #[.int .i64 n, .slice A E.length c] 33 (0, 0))) := X0.out
  have XA : Hid ((W0.alloc (.cells #[] 3)).drew.heap[w.heap.size]? = some (.cells #[.int .i64 n, .slice A E.length c] 33 (0, 0))) := block_alloc X0.out _
  have HEc : Hid ((W0.alloc (.cells #[] 3)).drew.heap[W0.heap.size]? = some (.cells #[] 3 (0, 0))) := heap_alloc_new W0 _
  have RA : Hid ((W0.alloc (.cells #[] 3)).drew.heap[w.heap.size + 1]? = some (.cells #[.int .i64 0, .slice none 0 0] 33 (0, 0))) := block_alloc R0.out _
  have BA : Hid (Below w.heap.size w (W0.alloc (.cells #[] 3)).drew) := (B0.out.alloc B0.out.size _).drew
  have hsa : W0.heap.size + 1 = (W0.alloc (.cells #[] 3)).drew.heap.size := by show _ = (W0.alloc (.cells #[] 3)).heap.size; simp
  have HSa := Lib.hid hsa
  clear hsa
  go_region_held3 (fun w' => w'.cell? ⟨w.heap.size, 0, none⟩ = some (.int .i64 n) ∧ w'.cell? ⟨w.heap.size, 1, none⟩ = some (.slice A E.length c))
    (with_reducible first | exact HXk.out _ X6.out | exact HXk.out _ X2.out | exact HXk.out _ XA.out | exact HXk.out _ XD.out | fail)
    (first
      | (refine step_app3 (v := .slice (some ⟨W0.heap.size, 0, none⟩) 0 0) rfl _ _ rfl rfl (own_of_block HEc.out) rfl (HEo.out.below BA.out) HAo.out (by omega) (by rw [← HSa.out]; omega) ?_; intro v' w2 hown hg; obtain ⟨A1, c1, rfl⟩ := own_len hown; have HO1 := Lib.hid hown; have X2 : Hid (w2.heap[w.heap.size]? = some (.cells #[.int .i64 n, .slice A E.length c] 33 (0, 0))) := (hg.block _ (by rw [← HSa.out]; omega) (by simp [Value.ownBlock]; omega)).trans XA.out; have R2 : Hid (w2.heap[w.heap.size + 1]? = some (.cells #[.int .i64 0, .slice none 0 0] 33 (0, 0))) := (hg.block _ (by rw [← HSa.out]; omega) (by simp [Value.ownBlock]; omega)).trans RA.out; have B2 : Hid (Below w.heap.size w w2) := BA.out.grown hg (by rw [← HSa.out]; omega) (fun j hj => by simp [Value.ownBlock] at hj; omega); obtain ⟨r0, r1, rf⟩ := cells_two R2.out; have hz2 := hg.size; have X6 : Hid (((w2.setCell ⟨w.heap.size + 1, 0, none⟩ (.int .i64 n)).setCell ⟨w.heap.size + 1, 1, none⟩ (.slice A1 E.length c1)).heap[w.heap.size]? = some (.cells #[.int .i64 n, .slice A E.length c] 33 (0, 0))) := (Below.heap_setCell _ ⟨w.heap.size + 1, 1, none⟩ _ _ (by show w.heap.size ≠ w.heap.size + 1; omega)).trans ((Below.heap_setCell _ ⟨w.heap.size + 1, 0, none⟩ _ _ (by show w.heap.size ≠ w.heap.size + 1; omega)).trans X2.out); clear hown hg)
      | fail)
  have R6 := Lib.hid (two_setC R2.out (.int .i64 n) (.slice A1 E.length c1))
  obtain ⟨s0, s1, sf⟩ := cells_two R6.out
  have HB6 := Lib.hid ((B2.out.setCell (p := ⟨w.heap.size + 1, 0, none⟩) (by show _ ≤ w.heap.size + 1; omega) (.int .i64 n)).setCell (p := ⟨w.heap.size + 1, 1, none⟩) (by show _ ≤ w.heap.size + 1; omega) (.slice A1 E.length c1))
  go_wp2
  refine bodyPost_ret (v := .agg #[.int .i64 n, .slice A1 E.length c1]) ?_ rfl ⟨A1, c1, rfl, ?_, HB6.out⟩
  · simp [results, Try.results19, go_sem, s0, s1]
  · obtain ⟨A9, c9, e9, hr⟩ := own_rdz (ownsRow_setCell_below (ownsRow_setCell_below HO1.out (a := ⟨w.heap.size + 1, 0, none⟩) (by show w.heap.size + 1 < W0.heap.size; omega) (.int .i64 n)) (a := ⟨w.heap.size + 1, 1, none⟩) (by show w.heap.size + 1 < W0.heap.size; omega) (.slice A1 E.length c1))
    injection e9 with e8 _ e7
    subst e8
    subst e7
    exact hr
end Go.Proofs.Ytlagljnhbhnelaa
namespace Go.Proofs.Ytlagljnhbhnelaa
open Go.RowKit
set_option linter.unusedVariables false
set_option linter.unusedSimpArgs false

set_option maxHeartbeats 1600000 in
set_option maxRecDepth 1000000 in
theorem dorder_bad (n : Int) (E : List Int) (A : Option Addr) (c : Nat) (w : World) (hE : RdZ w w.heap.size A c E) (h : chkV n E ≠ 0) :
    Calls Try.prog 20 #[.agg #[.int .i64 n, .slice A E.length c]] w fun e w' => e = .returned (.tuple #[.int .i64 0, .int .i64 (chkV n E)]) ∧ Below w.heap.size w w' := by
  have X0 : Hid ((w.alloc (.cells #[.int .i64 n, .slice A E.length c] 33)).heap[w.heap.size]? = some (.cells #[.int .i64 n, .slice A E.length c] 33 (0, 0))) := heap_alloc_new w _
  have B0 : Hid (Below w.heap.size w (w.alloc (.cells #[.int .i64 n, .slice A E.length c] 33))) := below1 w _
  have HCk := Lib.hid (dckv_any n E A c (w.alloc (.cells #[.int .i64 n, .slice A E.length c] 33)) ((hE.below B0.out).mono B0.out.size))
  obtain ⟨x0, x1, _⟩ := cells_two X0.out
  have hk : (chkV n E != 0) = true := by rw [bne_iff_ne]; exact h
  clear h hE
  generalize chkV n E = K at *
  go_enter Try.func20, Try.ntmps20
  go_wp2_with (first
    | (go_at_call 24; ((with_reducible refine HCk.out.mono ?_); rintro e w1 ⟨rfl, hb⟩; have B1 := Lib.hid (B0.out.trans (hb.mono B0.out.size)); clear hb x0 x1))
    | fail)
  exact bodyPost_ret (results_tmp2 rfl _ _ _) rfl ⟨by first | rfl | simp, B1.out⟩
set_option maxHeartbeats 1600000 in
set_option maxRecDepth 1000000 in
theorem dcond_bad (n : Int) (E : List Int) (A : Option Addr) (c : Nat) (w : World) (hE : RdZ w w.heap.size A c E) (h : chkV n E ≠ 0) :
    Calls Try.prog 21 #[.agg #[.int .i64 n, .slice A E.length c]] w fun e w' => e = .returned (.tuple #[.int .i64 0, .int .i64 (chkV n E)]) ∧ Below w.heap.size w w' := by
  have X0 : Hid ((w.alloc (.cells #[.int .i64 n, .slice A E.length c] 33)).heap[w.heap.size]? = some (.cells #[.int .i64 n, .slice A E.length c] 33 (0, 0))) := heap_alloc_new w _
  have B0 : Hid (Below w.heap.size w (w.alloc (.cells #[.int .i64 n, .slice A E.length c] 33))) := below1 w _
  have HCk := Lib.hid (dckv_any n E A c (w.alloc (.cells #[.int .i64 n, .slice A E.length c] 33)) ((hE.below B0.out).mono B0.out.size))
  obtain ⟨x0, x1, _⟩ := cells_two X0.out
  have hk : (chkV n E != 0) = true := by rw [bne_iff_ne]; exact h
  clear h hE
  generalize chkV n E = K at *
  go_enter Try.func21, Try.ntmps21
  go_wp2_with (first
    | (go_at_call 24; ((with_reducible refine HCk.out.mono ?_); rintro e w1 ⟨rfl, hb⟩; have B1 := Lib.hid (B0.out.trans (hb.mono B0.out.size)); clear hb x0 x1))
    | fail)
  exact bodyPost_ret (results_tmp2 rfl _ _ _) rfl ⟨by first | rfl | simp, B1.out⟩

set_option maxHeartbeats 1600000 in
set_option maxRecDepth 1000000 in
theorem deven_bad (n : Int) (E : List Int) (A : Option Addr) (c : Nat) (w : World) (hE : RdZ w w.heap.size A c E) (h : chkV n E ≠ 0) :
    Calls Try.prog 22 #[.agg #[.int .i64 n, .slice A E.length c]] w fun e w' => e = .returned (.tuple #[.bool false, .int .i64 (chkV n E)]) ∧ Below w.heap.size w w' := by
  have X0 : Hid ((w.alloc (.cells #[.int .i64 n, .slice A E.length c] 33)).heap[w.heap.size]? = some (.cells #[.int .i64 n, .slice A E.length c] 33 (0, 0))) := heap_alloc_new w _
  have B0 : Hid (Below w.heap.size w (w.alloc (.cells #[.int .i64 n, .slice A E.length c] 33))) := below1 w _
  have HVa := Lib.hid (dval_bad n E (-1) A c (w.alloc (.cells #[.int .i64 n, .slice A E.length c] 33)) ((hE.below B0.out).mono B0.out.size) h)
  obtain ⟨x0, x1, _⟩ := cells_two X0.out
  have hk : (chkV n E == 0) = false := by rw [beq_eq_false_iff_ne]; exact h
  clear h hE
  generalize chkV n E = K at *
  go_enter Try.func22, Try.ntmps22
  go_upto_region 2 with (first
    | (go_at_call 31; ((with_reducible refine HVa.out.mono ?_); rintro e w1 ⟨rfl, hb⟩; have B1 := Lib.hid (B0.out.trans (hb.mono B0.out.size)); clear hb x0 x1))
    | fail)
  have V1 : Hid ((w1.alloc (.cells #[.bool false, .int .i64 0, .int .i64 0] 48)).heap[w1.heap.size]? = some (.cells #[.bool false, .int .i64 0, .int .i64 0] 48 (0, 0))) := heap_alloc_new w1 _
  have B2 : Hid (Below w.heap.size w (w1.alloc (.cells #[.bool false, .int .i64 0, .int .i64 0] 48))) := B1.out.alloc B1.out.size _
  obtain ⟨⟨s0, s1, s2⟩, sf⟩ := three_of_blockD V1.out
  go_wp2
  exact bodyPost_ret (results_tmp2 rfl _ _ _) rfl ⟨by first | rfl | simp, B2.out⟩
set_option maxHeartbeats 1600000 in
set_option maxRecDepth 1000000 in
theorem reven_any (n : Nat) (E : List Int) (A : Option Addr) (c : Nat) (w : World) (n1 : 1 ≤ n) (n2 : (n : Int) ≤ 60) (hE : RdZ w w.heap.size A c E) (hck : ckX n E = 0) :
    Calls Try.prog 27 #[.agg #[.int .i64 (n : Int), .slice A E.length c]] w fun e w' => e = .returned (.bool (decide (rouN ((tbV n E).getD (-1 % (n : Int)).toNat 0) (tbM (gensV n)) = 0))) ∧ Below w.heap.size w w' := by
  have X0 : Hid ((w.alloc (.cells #[.int .i64 (n : Int), .slice A E.length c] 33)).heap[w.heap.size]? = some (.cells #[.int .i64 (n : Int), .slice A E.length c] 33 (0, 0))) := heap_alloc_new w _
  have B0 : Hid (Below w.heap.size w (w.alloc (.cells #[.int .i64 (n : Int), .slice A E.length c] 33))) := below1 w _
  obtain ⟨x0, x1, _⟩ := cells_two X0.out
  have HVa := Lib.hid (rval_any n E (-1) A c (w.alloc (.cells #[.int .i64 (n : Int), .slice A E.length c] 33)) n1 n2 ((hE.below B0.out).mono B0.out.size) hck (by omega) (by omega))
  have hj1 : (-1 % (n : Int)).toNat < n := by have h1 := Int.emod_lt_of_pos (-1) (show 0 < (n : Int) by omega); have := Int.emod_nonneg (-1) (show (n : Int) ≠ 0 by omega); omega
  have hgc : Nat.gcd (-1 % (n : Int)).toNat n = 1 := by
    rw [← gcd_red (-1) n1]
    show Nat.gcd (Int.natAbs (-1)) _ = 1
    exact Nat.gcd_one_left _
  have hyes := (cht_of n1 (show n ≤ 60 by omega) (ck_ok hck).1).yes _ hj1 hgc
  rw [rou_eq, decide_eq_false (by omega)] at HVa
  have HO : Hid (∀ x y W, Calls Try.prog 56 #[.agg #[.bool false, .int .i64 x, .int .i64 y]] W fun e w' => e = .returned (.bool (decide (x = 0))) ∧ Below W.heap.size W w') := fun x y W => by
    have := one_any false x y W
    simpa using this
  clear hE hck hyes hgc hj1
  generalize (tbV n E).getD (-1 % (n : Int)).toNat 0 = k at *
  generalize tbM (gensV n) = m at *
  generalize rouN k m = x at *
  generalize rouD k m = y at *
  have HO2 := Lib.hid (fun W => HO.out x y W)
  generalize decide (x = 0) = z at *
  go_enter Try.func27, Try.ntmps27
  go_wp2_with (first
    | (go_at_call 33; ((with_reducible refine HVa.out.mono ?_); rintro e w1 ⟨rfl, hb⟩; have B1 := Lib.hid (B0.out.trans (hb.mono B0.out.size)); clear hb x0 x1))
    | (go_at_call 56; ((with_reducible refine (HO2.out _).mono ?_); rintro e w2 ⟨rfl, hb⟩; have B2 := Lib.hid (B1.out.trans (hb.mono B1.out.size)); clear hb))
    | fail)
  go_ret
  exact ⟨by first | rfl | simp, B2.out⟩
theorem run_fieldR (a b c : Value) (W : World) : (Instr.field 48 (.agg #[a, b, c]) 2).run Try.prog W = .ok c W := by
  simp [Instr.field, go_sem, asAgg]
set_option maxHeartbeats 3200000 in
set_option maxRecDepth 1000000 in
theorem rorder_any (n : Nat) (E : List Int) (A : Option Addr) (c : Nat) (w : World) (n1 : 1 ≤ n) (n2 : (n : Int) ≤ 60) (hE : RdZ w w.heap.size A c E) (hck : ckX n E = 0) :
    Calls Try.prog 25 #[.agg #[.int .i64 (n : Int), .slice A E.length c]] w fun e w' => e = .returned (.int .i64 (ordV n E : Nat)) ∧ Below w.heap.size w w' := by
  obtain ⟨hel, hex⟩ := ck_ok hck
  have hM := (tbc_le n1 (show n ≤ 60 by omega)).2 (gensV n).length (Nat.le_refl _)
  rw [List.take_length] at hM
  obtain ⟨M1, M2⟩ := hM
  have hlgf := lg_of n1 (show n ≤ 60 by omega)
  have hod : ∀ k (hk : k < (gensV n).length), tbM (gensV n) % (gensV n)[k].2 = 0 := fun k hk => (hlgf.od _ (List.mem_reverse.2 (List.mem_map_of_mem (List.getElem_mem hk)))).1
  have HDv := Lib.hid (odP_dvd hel hod)
  have HEnd : Hid (odP (gensV n) E (gensV n).length = ordV n E) := odP_end hel
  have HSc := Lib.hid (fun (j : Nat) (h : j < (gensV n).length) (h2 : j < E.length) => odP_succ h h2)
  have HEl := Lib.hid hel
  have HEx := Lib.hid hex
  have HGe : Hid (∀ W, Calls Try.prog 16 #[.int .i64 (n : Int)] W fun e w' => ∃ A1 c1 A2 c2, e = .returned (.tuple #[.slice A1 (gensV n).length c1, .slice A2 (gensV n).length c2]) ∧ RdZ w' w'.heap.size A2 c2 ((gensV n).map fun g => (g.2 : Int)) ∧ Below W.heap.size W w') := fun W => by
    refine (rgenr_any n W n1 n2).mono fun e w' ⟨v1, v2, he, h1, h2, hb⟩ => ?_
    obtain ⟨A1, c1, rfl, r1⟩ := own_rdz h1
    obtain ⟨A2, c2, rfl, r2⟩ := own_rdz h2
    rw [List.length_map, List.length_map] at he
    exact ⟨A1, c1, A2, c2, he, r2, hb⟩
  have hgf := gens_facts n1 (show n ≤ 60 by omega)
  have hgl := hgf.len
  have HGk : Hid (∀ k (hk : k < (gensV n).length), 1 ≤ (gensV n)[k].2 ∧ (gensV n)[k].2 ≤ 60) := fun k hk => ⟨hgf.o1 _ (List.getElem_mem hk), hgf.o2 _ (List.getElem_mem hk)⟩
  have X0 : Hid ((w.alloc (.cells #[.int .i64 (n : Int), .slice A E.length c] 33)).heap[w.heap.size]? = some (.cells #[.int .i64 (n : Int), .slice A E.length c] 33 (0, 0))) := heap_alloc_new w _
  have B0 : Hid (Below w.heap.size w (w.alloc (.cells #[.int .i64 (n : Int), .slice A E.length c] 33))) := below1 w _
  have HEo := Lib.hid hE
  obtain ⟨x0, x1, _⟩ := cells_two X0.out
  clear hE hck hel hex hlgf hod hgf
  generalize ordV n E = R at *
  generalize tbM (gensV n) = M at *
  generalize gensV n = G at *
  have hLi : (G.length : Int) ≤ 8 := by omega
  go_enter Try.func25, Try.ntmps25
  go_wp2_with (first
    | (go_at_call 16; ((with_reducible refine (HGe.out _).mono ?_); rintro e w2 ⟨A1, c1, A2, c2, rfl, hr, hb⟩; have HR := Lib.hid hr; have X2 := Lib.hid (block_below X0.out hb); have B2 := Lib.hid (B0.out.trans (hb.mono B0.out.size)); clear hb hr x0 x1))
    | fail)
  clear HGe
  go_loopw [5, 6, 7] (fun O I _ wr => ∃ j : Nat, O = .int .i64 ((odP G E j : Nat) : Int) ∧ I = .int .i64 (j : Int) ∧ j ≤ G.length ∧ Hid (Below w2.heap.size w2 wr)) (fun _ I _ _ => G.length - (intOf I).toNat)
  case atStart => exact ⟨0, rfl, rfl, Nat.zero_le _, Below.refl _ _⟩
  case round =>
    obtain ⟨j, rfl, rfl, hj, HW⟩ := hrel
    have hdv := HDv.out j hj
    have ha60 : odP G E j ≤ 60 := Nat.le_trans (Nat.le_of_dvd M1 hdv) M2
    have ha1 : 1 ≤ odP G E j := Nat.pos_of_dvd_of_pos hdv M1
    by_cases hjl : j < G.length
    · have hjli : (j : Int) < (G.length : Int) := by omega
      have hjE : j < E.length := by have := HEl.out; omega
      have HS := Lib.hid (HSc.out j hjl hjE)
      have hdv2 := HDv.out (j + 1) (by omega)
      have hb60 : odP G E (j + 1) ≤ 60 := Nat.le_trans (Nat.le_of_dvd M1 hdv2) M2
      have hBw : Below w.heap.size w wr := B2.out.trans (HW.out.mono B2.out.size)
      obtain ⟨b, o, rfl, hbB, q1⟩ := (HEo.out.below hBw).at_ hjE
      obtain ⟨b2, o2, rfl, hb2, q2⟩ := (HR.out.below HW.out).at_ (show j < (G.map fun g => (g.2 : Int)).length by rw [List.length_map]; exact hjl)
      rw [List.getElem_map] at q2
      obtain ⟨g1, g2⟩ := HGk.out j hjl
      obtain ⟨e1, e2⟩ := HEx.out j hjE hjl
      have hE2 : E[j] = ((E[j].toNat : Nat) : Int) := by omega
      rw [hE2] at q1
      have hX : E[j].toNat < G[j].2 := by omega
      clear hdv hdv2 e1 e2 hE2
      generalize E[j].toNat = X at *
      generalize G[j].2 = q at *
      generalize odP G E j = k at *
      generalize hk2 : odP G E (j + 1) = k2 at *
      have HK2 := Lib.hid hk2
      clear hk2
      have HRt := Lib.hid (fun W => root_any X q W g1 (by omega) (by omega))
      rw [Nat.mod_eq_of_lt hX, Nat.gcd_comm X q] at HRt
      have hd1 : 1 ≤ q / Nat.gcd q X := Nat.div_pos (Nat.gcd_le_left _ g1) (Nat.gcd_pos_of_pos_left _ g1)
      have hd2 : q / Nat.gcd q X ≤ 60 := Nat.le_trans (Nat.div_le_self _ _) g2
      generalize X / Nat.gcd q X = X9 at *
      generalize q / Nat.gcd q X = d at *
      have hlc : k / Nat.gcd k d * d = k2 := by
        rw [HS.out]
        show k / Nat.gcd k d * d = k * d / Nat.gcd k d
        rw [Nat.div_mul_right_comm (Nat.gcd_dvd_left k d)]
      have HG := Lib.hid (fun W => rGcd_any (k : Int) (d : Int) W (by unfold Mid; omega) (by unfold Mid; omega))
      rw [show Int.gcd (k : Int) (d : Int) = Nat.gcd k d by simp [Int.gcd]] at HG
      have hg1 : 1 ≤ Nat.gcd k d := Nat.gcd_pos_of_pos_left _ ha1
      have hq1 : k / Nat.gcd k d ≤ k := Nat.div_le_self _ _
      have htd : Int.tdiv (k : Int) ((Nat.gcd k d : Nat) : Int) = ((k / Nat.gcd k d : Nat) : Int) := (Int.ofNat_tdiv _ _).symm
      have hdv : (k : Int) / ((Nat.gcd k d : Nat) : Int) = ((k / Nat.gcd k d : Nat) : Int) := (Int.natCast_ediv _ _).symm
      have hpr : ((k / Nat.gcd k d : Nat) : Int) * (d : Int) = (k2 : Int) := by rw [← hlc, Int.natCast_mul]
      clear hlc HS
      generalize k / Nat.gcd k d = z at *
      generalize Nat.gcd k d = g9 at *
      have g0 : ((g9 : Int) == 0) = false := by rw [beq_eq_false_iff_ne]; omega
      have g0' : ¬ ((g9 : Int) = 0) := by omega
      have g0'' : ¬ (g9 = 0) := by omega
      have hwz : IntKind.i64.wrap (z : Int) = (z : Int) := IntWalk.i64_in _ (by omega)
      have hwk : IntKind.i64.wrap (k2 : Int) = (k2 : Int) := IntWalk.i64_in _ (by omega)
      have hbl := B2.out.size
      have HKc : Hid (∀ W, Below wr.heap.size wr W → W.cell? ⟨w.heap.size, 1, none⟩ = some (.slice (some ⟨b, o, none⟩) E.length c) ∧ W.cell? ⟨b, o + j, none⟩ = some (.int .i64 (X : Int)) ∧ W.cell? ⟨b2, o2 + j, none⟩ = some (.int .i64 (q : Int))) := fun W hW => by
        have hsz := HW.out.size
        refine ⟨(cells_two (block_below (block_below X2.out HW.out) hW)).2.1, (hW.cell (p := ⟨b, o + j, none⟩) (by show b < _; omega)).trans q1, (hW.cell (p := ⟨b2, o2 + j, none⟩) (by show b2 < _; omega)).trans q2⟩
      have D4 : Hid (Below wr.heap.size wr wr.drew) := Below.drew (Below.refl _ _)
      have hfd := fun W => run_fieldR (.bool false) (.int .i64 (X9 : Int)) (.int .i64 (d : Int)) W
      go_upto_region 6 with fail
      go_region_held3 (fun w' => w'.cell? ⟨w.heap.size, 1, none⟩ = some (.slice (some ⟨b, o, none⟩) E.length c) ∧ w'.cell? ⟨b, o + j, none⟩ = some (.int .i64 (X : Int)) ∧ w'.cell? ⟨b2, o2 + j, none⟩ = some (.int .i64 (q : Int)))
        (with_reducible first | exact HKc.out _ D5.out | exact HKc.out _ D4.out | fail)
        (first
          | (go_at_call 55; ((with_reducible refine (HRt.out _).mono ?_); rintro e w5 ⟨rfl, hb⟩; have D5 := Lib.hid (D4.out.trans (hb.mono D4.out.size)); clear hb))
          | fail)
      go_wp2_with (first
        | (go_at_call 35; ((with_reducible refine (HG.out _).mono ?_); rintro e w6 ⟨rfl, hd⟩; have D6 := Lib.hid (D5.out.trans ((bel_drewN hd).mono D5.out.size)); clear hd))
        | fail)
      have HW6 := Lib.hid (HW.out.trans (D6.out.mono HW.out.size))
      go_roundw
      case rel => exact ⟨j + 1, by rw [HK2.out], by go_num, by omega, HW6.out⟩
      case measure => simp [intOf]; omega
    · obtain rfl : j = G.length := by omega
      have hk3 : ¬ (G.length : Int) < (G.length : Int) := by omega
      rw [HEnd.out]
      go_wp2
      go_ret
      exact ⟨rfl, B2.out.trans (HW.out.mono B2.out.size)⟩
end Go.Proofs.Ytlagljnhbhnelaa
namespace Go.Proofs.Ytlagljnhbhnelaa
open Go.RowKit
set_option linter.unusedVariables false
set_option linter.unusedSimpArgs false

set_option maxHeartbeats 6400000 in
set_option maxRecDepth 1000000 in
theorem rcond_any (n C : Nat) (E : List Int) (A : Option Addr) (c : Nat) (w : World) (n1 : 1 ≤ n) (n2 : (n : Int) ≤ 60) (hE : RdZ w w.heap.size A c E) (hck : ckX n E = 0) (C1 : 1 ≤ C) (C2 : C ≤ n) (hC : pdV (tbV n E) C = true) (hl : ∀ f, 1 ≤ f → f < C → pdV (tbV n E) f = false) :
    Calls Try.prog 26 #[.agg #[.int .i64 (n : Int), .slice A E.length c]] w fun e w' => e = .returned (.int .i64 (C : Int)) ∧ Below w.heap.size w w' := by
  have hct := cht_of n1 (show n ≤ 60 by omega) (ck_ok hck).1
  have X0 : Hid ((w.alloc (.cells #[.int .i64 (n : Int), .slice A E.length c] 33)).heap[w.heap.size]? = some (.cells #[.int .i64 (n : Int), .slice A E.length c] 33 (0, 0))) := heap_alloc_new w _
  have B0 : Hid (Below w.heap.size w (w.alloc (.cells #[.int .i64 (n : Int), .slice A E.length c] 33))) := below1 w _
  have HV : Hid (∀ (a : Nat) (h1 : a ≤ n) (W : World), Below w.heap.size w W → Calls Try.prog 33 #[.agg #[.int .i64 (n : Int), .slice A E.length c], .int .i64 (a : Int)] W fun e w' => e = .returned (rouV ((tbV n E).getD (a % n) 0) (tbM (gensV n))) ∧ Below W.heap.size W w') := fun a h1 W hW => by
    have := rval_any n E (a : Int) A c W n1 n2 ((hE.below hW).mono hW.size) hck (by omega) (by omega)
    rwa [show ((a : Int) % (n : Int)).toNat = a % n by rw [← Int.natCast_emod, Int.toNat_natCast]] at this
  have HYes : Hid (∀ a, Nat.gcd a n = 1 → 0 ≤ (tbV n E).getD (a % n) 0 ∧ (tbV n E).getD (a % n) 0 < (tbM (gensV n) : Int)) := fun a hg => hct.yes (a % n) (Nat.mod_lt _ (by omega)) (by rw [gcd_modn]; exact hg)
  have HPd : Hid (∀ f, 1 ≤ f → okC n (tbV n E) f n = pdV (tbV n E) f) := fun f h => okC_pdV hct n1 h
  have HC := Lib.hid hC
  have HL := Lib.hid hl
  obtain ⟨x0, x1, _⟩ := cells_two X0.out
  clear hE hck hct hC hl
  generalize tbV n E = T at *
  generalize tbM (gensV n) = M at *
  go_enter Try.func26, Try.ntmps26
  go_wp2
  go_loopw [4, 5, 6] (fun F _ _ wr => ∃ f : Nat, F = .int .i64 (f : Int) ∧ 1 ≤ f ∧ f ≤ C ∧ Hid (Below w.heap.size w wr) ∧ Hid (wr.heap[w.heap.size]? = some (.cells #[.int .i64 (n : Int), .slice A E.length c] 33 (0, 0)))) (fun F _ _ _ => n + 1 - (intOf F).toNat)
  case atStart => exact ⟨1, rfl, Nat.le_refl _, C1, B0.out, X0.out⟩
  case round =>
    clear B0 X0 x0 x1
    obtain ⟨f, rfl, f1, f2, HB, HX⟩ := hrel
    by_cases hfn : f < n
    · have hfni : (f : Int) < (n : Int) := by omega
      have hf0 : ((f : Int) == 0) = false := by rw [beq_eq_false_iff_ne]; omega
      have hf01 : ¬ ((f : Int) = 0) := by omega
      have hf02 : ¬ (f = 0) := by omega
      have hmod : (n : Int) % (f : Int) = ((n % f : Nat) : Int) := (Int.natCast_emod n f).symm
      have HP := Lib.hid (HPd.out f f1)
      have HSt : Hid (∀ t, okC n T f (t + 1) = (okC n T f t && stpC n T f (t + 1))) := fun t => rfl
      have hok0 : ((n : Int) % (f : Int) == 0) = okC n T f 0 := by
        show _ = decide (n % f = 0)
        rw [hmod]
        by_cases e : n % f = 0
        · rw [e]; rfl
        · rw [decide_eq_false e, beq_eq_false_iff_ne]; omega
      have hlf := Nat.mod_lt n (show 0 < f by omega)
      obtain ⟨wo, hwo⟩ : ∃ wo, wo = wr := ⟨_, rfl⟩
      rw [← hwo] at HB HX ⊢
      clear hwo hmod
      go_wp2
      go_loopw [5, 6] (fun K I wr => ∃ t : Nat, K = .bool (okC n T f t) ∧ I = .int .i64 ((t + 1 : Nat) : Int) ∧ t ≤ n ∧ Hid (Below w.heap.size w wr) ∧ Hid (wr.heap[w.heap.size]? = some (.cells #[.int .i64 (n : Int), .slice A E.length c] 33 (0, 0)))) (fun _ I _ => n + 1 - (intOf I).toNat)
      case atStart => exact ⟨0, rfl, rfl, Nat.zero_le _, HB.out, HX.out⟩
      case round =>
        clear HB HX hok0
        obtain ⟨t, rfl, rfl, ht, HB, HX⟩ := hrel
        obtain ⟨x0, x1, _⟩ := cells_two HX.out
        have HS := Lib.hid (HSt.out t)
        have HFa : Hid (okC n T f t = false → okC n T f n = false) := fun h => okC_false h n ht
        obtain ⟨u, hu⟩ : ∃ u, u = t + 1 := ⟨_, rfl⟩
        have hu1 : (u : Int) - 1 = (t : Int) := by omega
        have HU := Lib.hid hu
        rw [← hu] at HS ⊢
        cases hkb : okC n T f t with
        | false =>
          have HN := Lib.hid (HFa.out hkb)
          rw [HP.out] at HN
          have hfC : f < C := by
            rcases Nat.lt_or_ge f C with h | h
            · exact h
            · have : f = C := by omega
              rw [this, HC.out] at HN
              exact absurd HN.out (by decide)
          clear HFa HS HSt HP HN hkb hu
          by_cases hun : u ≤ n
          · have huni : (u : Int) ≤ (n : Int) := by omega
            go_wp2
            go_roundw
            case rel => exact ⟨f + 1, by go_num, by omega, by omega, HB.out, HX.out⟩
            case measure => simp [intOf]; omega
          · have huni : ¬ (u : Int) ≤ (n : Int) := by omega
            go_wp2
            go_roundw
            case rel => exact ⟨f + 1, by go_num, by omega, by omega, HB.out, HX.out⟩
            case measure => simp [intOf]; omega
        | true =>
          by_cases htn : t < n
          · have huni : (u : Int) ≤ (n : Int) := by omega
            have HG := Lib.hid (fun W => rGcd_any (u : Int) (n : Int) W (by unfold Mid; omega) (by unfold Mid; omega))
            rw [show Int.gcd (u : Int) (n : Int) = Nat.gcd u n by simp [Int.gcd]] at HG
            rw [hkb, Bool.true_and] at HS
            have hut : u - 1 = t := by omega
            have hmod : (t : Int) % (f : Int) = ((t % f : Nat) : Int) := (Int.natCast_emod t f).symm
            have hlt := Nat.mod_lt t (show 0 < f by omega)
            by_cases hg : Nat.gcd u n = 1
            · rw [hg] at HG
              by_cases hm : t % f = 0
              · have hm2 : ((t : Int) % (f : Int) != 0) = false := by rw [hmod, hm]; rfl
                have HVu := Lib.hid (HV.out u (by omega))
                obtain ⟨k1, k2⟩ := HYes.out u hg
                have HO : Hid (∀ W, Calls Try.prog 56 #[.agg #[.bool false, .int .i64 (rouN (T.getD (u % n) 0) M), .int .i64 (rouD (T.getD (u % n) 0) M)]] W fun e w' => e = .returned (.bool (okC n T f u)) ∧ Below W.heap.size W w') := fun W => by
                  have h9 := one_any false (rouN (T.getD (u % n) 0) M) (rouD (T.getD (u % n) 0) M) W
                  have e9 : (!false && decide (rouN (T.getD (u % n) 0) M = 0)) = okC n T f u := by
                    rw [HS.out]
                    unfold stpC
                    have hA : decide (Nat.gcd u n ≠ 1) = false := decide_eq_false (fun h => h hg)
                    have hB : decide ((u - 1) % f ≠ 0) = false := decide_eq_false (fun h => h (by rw [hut]; exact hm))
                    rw [hA, hB, Bool.not_false, Bool.true_and, Bool.false_or, Bool.false_or]
                    exact decide_eq_decide.2 (rouN_zero k1 k2)
                  rwa [e9] at h9
                rw [rou_eq, decide_eq_false (show ¬ T.getD (u % n) 0 = -1 by omega)] at HVu
                clear hkb HS HSt HFa hg hm hmod hlt k1 k2 hut hu
                generalize rouN (T.getD (u % n) 0) M = x at *
                generalize rouD (T.getD (u % n) 0) M = y at *
                go_wp2_with (first
                  | (go_at_call 35; ((with_reducible refine (HG.out _).mono ?_); rintro e w5 ⟨rfl, hd⟩; have HB5 := Lib.hid (HB.out.trans ((bel_drewN hd).mono HB.out.size)); have HX5 := Lib.hid (block_below HX.out (bel_drewN hd)); clear hd x0 x1; obtain ⟨x0, x1, _⟩ := cells_two HX5.out))
                  | (go_at_call 33; ((with_reducible refine (HVu.out _ HB5.out).mono ?_); rintro e w6 ⟨rfl, hb⟩; have HB6 := Lib.hid (HB5.out.trans (hb.mono HB5.out.size)); have HX6 := Lib.hid (block_below HX5.out hb); clear hb x0 x1))
                  | (go_at_call 56; ((with_reducible refine (HO.out _).mono ?_); rintro e w7 ⟨rfl, hb⟩; have HB7 := Lib.hid (HB6.out.trans (hb.mono HB6.out.size)); have HX7 := Lib.hid (block_below HX6.out hb); clear hb))
                  | fail)
                go_roundw
                case rel => exact ⟨u, rfl, by go_num, by omega, HB7.out, HX7.out⟩
                case measure => have := HU.out; simp [intOf]; omega
              · have hm2 : ((t : Int) % (f : Int) != 0) = true := by rw [hmod, bne_iff_ne]; omega
                have HE2 : Hid (okC n T f u = true) := by
                  show _ = _
                  rw [HS.out]; unfold stpC
                  rw [hut, decide_eq_true hm]; simp
                clear hkb HS HSt HFa hg hm hmod hlt hut hu
                go_wp2_with (first
                  | (go_at_call 35; ((with_reducible refine (HG.out _).mono ?_); rintro e w5 ⟨rfl, hd⟩; have HB5 := Lib.hid (HB.out.trans ((bel_drewN hd).mono HB.out.size)); have HX5 := Lib.hid (block_below HX.out (bel_drewN hd)); clear hd x0 x1; obtain ⟨x0, x1, _⟩ := cells_two HX5.out))
                  | fail)
                go_roundw
                case rel => exact ⟨u, by rw [HE2.out], by go_num, by omega, HB5.out, HX5.out⟩
                case measure => have := HU.out; simp [intOf]; omega
            · have hg2 : (((Nat.gcd u n : Nat) : Int) != 1) = true := by rw [bne_iff_ne]; omega
              have HE2 : Hid (okC n T f u = true) := by
                show _ = _
                rw [HS.out]; unfold stpC
                rw [decide_eq_true hg]; simp
              clear hkb HS HSt HFa hg hmod hlt hut hu
              generalize Nat.gcd u n = g9 at *
              go_wp2_with (first
                | (go_at_call 35; ((with_reducible refine (HG.out _).mono ?_); rintro e w5 ⟨rfl, hd⟩; have HB5 := Lib.hid (HB.out.trans ((bel_drewN hd).mono HB.out.size)); have HX5 := Lib.hid (block_below HX.out (bel_drewN hd)); clear hd x0 x1; obtain ⟨x0, x1, _⟩ := cells_two HX5.out))
                | fail)
              go_roundw
              case rel => exact ⟨u, by rw [HE2.out], by go_num, by omega, HB5.out, HX5.out⟩
              case measure => have := HU.out; simp [intOf]; omega
          · obtain rfl : t = n := by omega
            have huni : ¬ (u : Int) ≤ (t : Int) := by omega
            have hfC : f = C := by
              rcases Nat.lt_or_ge f C with h | h
              · rw [HP.out, HL.out f f1 h] at hkb; cases hkb
              · omega
            subst hfC
            clear hkb HS HSt HFa hu
            go_wp2
            go_ret
            exact ⟨rfl, HB.out⟩
    · have hfC : f = C := by omega
      have hnC : n = C := by omega
      subst hfC
      subst hnC
      have hk3 : ¬ (n : Int) < (n : Int) := by omega
      go_wp2
      go_ret
      exact ⟨rfl, HB.out⟩
end Go.Proofs.Ytlagljnhbhnelaa
