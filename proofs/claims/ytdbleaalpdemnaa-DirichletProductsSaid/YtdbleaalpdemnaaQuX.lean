/- The reference's check of a space: Mod, free, Fundamental, Check, Sturm. The reference's Kronecker symbol, Lambda and beta. dirichlet.Quadratic where it refuses; the reference's Quadratic. The reference's Quadratic. DirichletQuadratic: the quadratic character is that of the reference; its conductor, order and parity. -/
import Derived.Test.YtdbleaalpdemnaaDnB
import Derived.Test.YtdbleaalpdemnaaRgX
import Derived.Test.YtdbleaalpdemnaaTabXa
import Derived.Test.YtdbleaalpdemnaaOrdX
namespace Go.Proofs.Ytdbleaalpdemnaa
open Go.RowKit
set_option linter.unusedVariables false
set_option linter.unusedSimpArgs false

set_option maxHeartbeats 800000 in
theorem modD_any (a q : Int) (w : World) (a1 : -1000001 ≤ a) (a2 : a ≤ 1000001) (q1 : 1 ≤ q) (q2 : q ≤ 1000) : Calls Try.prog 36 #[.int .i64 a, .int .i64 q] w fun e w' => e = .returned (.int .i64 (a % q)) ∧ w' = w := by
  have hm := tmod_add a q (by omega)
  have hs := tmod_same a q (by omega)
  have b1 : (a.tmod q).natAbs < q.natAbs := by rw [Int.natAbs_tmod]; exact Nat.mod_lt _ (by omega)
  by_cases h : a.tmod q < 0
  · have e := hm h
    clear hm hs
    go_enter Try.func36, Try.ntmps36
    go_wp2
    go_ret
    exact ⟨rfl, rfl⟩
  · have e := hs (by omega)
    clear hm hs
    rw [← e]
    go_enter Try.func36, Try.ntmps36
    go_wp2
    go_ret
    exact ⟨rfl, rfl⟩
theorem frB_no {n t : Nat} (ht : t < 10) (h1 : (t + 2) * (t + 2) ≤ n) (h2 : n % ((t + 2) * (t + 2)) = 0) : frB n = false := by
  unfold frB
  rw [Bool.eq_false_iff]
  intro h
  have := List.all_eq_true.1 h t (List.mem_range.2 ht)
  simp only [Bool.or_eq_true, decide_eq_true_eq] at this
  omega
theorem frB_yes {n t : Nat} (hn : n < (t + 2) * (t + 2)) (h : ∀ j, j < t → n % ((j + 2) * (j + 2)) ≠ 0) : frB n = true := by
  unfold frB
  refine List.all_eq_true.2 fun j hj => ?_
  simp only [Bool.or_eq_true, decide_eq_true_eq]
  by_cases hjt : j < t
  · exact .inr (h j hjt)
  · left
    have : (t + 2) * (t + 2) ≤ (j + 2) * (j + 2) := Nat.mul_le_mul (by omega) (by omega)
    omega
set_option maxHeartbeats 1600000 in
theorem free_any (d : Int) (w : World) (d1 : -120 ≤ d) (d2 : d ≤ 120) :
    Calls Try.prog 76 #[.int .i64 d] w fun e w' => e = .returned (.bool (frB d.natAbs)) ∧ w = w' := by
  obtain ⟨n, hn⟩ : ∃ n, n = d.natAbs := ⟨_, rfl⟩
  rw [← hn]
  have hmax : max d (-d) = (n : Int) := by omega
  have hn2 : (n : Int) ≤ 120 := by omega
  have Hno := Lib.hid (fun (t : Nat) (ht : t < 10) (h1 : (t + 2) * (t + 2) ≤ n) (h2 : n % ((t + 2) * (t + 2)) = 0) => frB_no ht h1 h2)
  have Hyes := Lib.hid (fun (t : Nat) (h1 : n < (t + 2) * (t + 2)) (h2 : ∀ j, j < t → n % ((j + 2) * (j + 2)) ≠ 0) => frB_yes h1 h2)
  clear hn
  go_enter Try.func76, Try.ntmps76
  go_wp2
  go_loop [3] (fun P => ∃ t : Nat, P = .int .i64 ((t + 2 : Nat) : Int) ∧ t ≤ 10 ∧ Hid (∀ j, j < t → n % ((j + 2) * (j + 2)) ≠ 0)) (fun P => 20 - (intOf P).toNat)
  case atStart => exact ⟨0, rfl, by omega, fun j hj => absurd hj (by omega)⟩
  case round =>
    obtain ⟨t, rfl, ht, HJ⟩ := hrel
    have hno := Hno.out t
    have hyes := Hyes.out t
    obtain ⟨p, hp⟩ : ∃ p, p = t + 2 := ⟨_, rfl⟩
    have Hp := Lib.hid hp
    rw [← hp] at hno hyes ⊢
    have hp1 : 2 ≤ (p : Int) := by omega
    have hp2 : (p : Int) ≤ 12 := by omega
    have hsq : (p : Int) * (p : Int) = ((p * p : Nat) : Int) := (Int.natCast_mul p p).symm
    have hpp : p * p ≤ 144 := Nat.mul_le_mul (show p ≤ 12 by omega) (show p ≤ 12 by omega)
    have hpp0 : 4 ≤ p * p := Nat.mul_le_mul (show 2 ≤ p by omega) (show 2 ≤ p by omega)
    have hpb : t = 10 → 144 ≤ p * p := fun h => Nat.mul_le_mul (show 12 ≤ p by omega) (show 12 ≤ p by omega)
    clear hp
    obtain ⟨z, hz⟩ : ∃ z, z = p * p := ⟨_, rfl⟩
    have Hz := Lib.hid hz
    rw [← hz] at hno hyes hsq hpp hpp0 hpb
    clear hz
    have hz0 : ((z : Int) == 0) = false := by rw [beq_eq_false_iff_ne]; omega
    have hz1 : 1 ≤ (z : Int) := by omega
    have hmod : (n : Int) % (z : Int) = ((n % z : Nat) : Int) := (Int.natCast_emod n z).symm
    by_cases hle : z ≤ n
    · have hle2 : (z : Int) ≤ (n : Int) := by omega
      have ht10 : t < 10 := by rcases Nat.lt_or_ge t 10 with h | h; (exact h); have := hpb (by omega); omega
      clear hpb
      by_cases e : n % z = 0
      · have HE := Lib.hid (hno ht10 hle e)
        rw [e] at hmod
        clear hno hyes hle e
        go_wp2
        go_ret
        exact ⟨by rw [HE.out]; rfl, rfl⟩
      · have hne : (((n : Int) % (z : Int)) == 0) = false := by rw [hmod, beq_eq_false_iff_ne]; omega
        have He := Lib.hid e
        clear hno hyes hle e hmod
        go_wp2
        go_round
        case rel => exact ⟨t + 1, by have := Hp.out; go_num, by omega, fun j hj => by
          by_cases h : j < t
          · exact HJ.out j h
          · obtain rfl : j = t := by omega
            have h1 := He.out; have hq := Hp.out; have hz' := Hz.out; rw [hz', hq] at h1; exact h1⟩
        case measure => have := Hp.out; simp [intOf]; omega
    · have hle2 : ¬ (z : Int) ≤ (n : Int) := by omega
      have HE := Lib.hid (hyes (by omega) HJ.out)
      clear hno hyes hpb
      go_wp2
      go_ret
      exact ⟨by rw [HE.out]; rfl, rfl⟩
set_option maxHeartbeats 1600000 in
theorem rfun_any (d : Int) (w : World) (d1 : -120 ≤ d) (d2 : d ≤ 120) :
    Calls Try.prog 65 #[.int .i64 d] w fun e w' => e = .returned (.bool (fdR d)) ∧ w = w' := by
  by_cases h0 : d = 0
  · subst h0
    rw [show fdR 0 = false from rfl]
    go_enter Try.func65, Try.ntmps65
    go_wp2
    go_ret
    exact ⟨rfl, rfl⟩
  by_cases h1 : d = 1
  · subst h1
    rw [show fdR 1 = false from rfl]
    go_enter Try.func65, Try.ntmps65
    go_wp2
    go_ret
    exact ⟨rfl, rfl⟩
  have e0 : (d == 0) = false := by rw [beq_eq_false_iff_ne]; exact h0
  have e1 : (d == 1) = false := by rw [beq_eq_false_iff_ne]; exact h1
  have HM := Lib.hid (fun W => modD_any d 4 W (by omega) (by omega) (by omega) (by omega))
  have HF := Lib.hid (fun W => free_any d W d1 d2)
  by_cases h4 : d % 4 = 1
  · have ht0 : (d.tmod 4 == 0) = false := by rw [beq_eq_false_iff_ne]; intro h; have := Int.emod_eq_zero_of_dvd (Int.dvd_of_tmod_eq_zero h); omega
    have ht1 : (d % 4 == 0) = false := by rw [beq_eq_false_iff_ne]; omega
    rw [h4] at HM
    by_cases hf : frB d.natAbs = true
    · have HE : Hid (fdR d = true) := by show _ = _; unfold fdR; rw [decide_eq_true h0, decide_eq_true h1, decide_eq_true h4, hf]; rfl
      rw [HE.out]
      rw [hf] at HF
      clear h0 h1 h4 hf HE
      go_enter Try.func65, Try.ntmps65
      go_wp2_with (first
      | (go_at_call 36; first
         | ((with_reducible refine (HM.out _).mono ?_); rintro e w1 ⟨rfl, rfl⟩)
         | ((with_reducible refine (HQ.out _).mono ?_); rintro e w1 ⟨rfl, rfl⟩)
         | fail)
      | (go_at_call 76; first
         | ((with_reducible refine (HF.out _).mono ?_); rintro e w1 ⟨rfl, rfl⟩)
         | ((with_reducible refine (HG.out _).mono ?_); rintro e w1 ⟨rfl, rfl⟩)
         | fail)
      | fail)
      go_ret
      exact ⟨rfl, rfl⟩
    · have hf' : frB d.natAbs = false := by simpa using hf
      have HE : Hid (fdR d = false) := by show _ = _; unfold fdR; rw [hf', show decide (d % 4 = 0) = false from decide_eq_false (by omega)]; simp
      rw [HE.out]
      rw [hf'] at HF
      clear h0 h1 h4 hf hf' HE
      go_enter Try.func65, Try.ntmps65
      go_wp2_with (first
      | (go_at_call 36; first
         | ((with_reducible refine (HM.out _).mono ?_); rintro e w1 ⟨rfl, rfl⟩)
         | ((with_reducible refine (HQ.out _).mono ?_); rintro e w1 ⟨rfl, rfl⟩)
         | fail)
      | (go_at_call 76; first
         | ((with_reducible refine (HF.out _).mono ?_); rintro e w1 ⟨rfl, rfl⟩)
         | ((with_reducible refine (HG.out _).mono ?_); rintro e w1 ⟨rfl, rfl⟩)
         | fail)
      | fail)
      go_ret
      exact ⟨rfl, rfl⟩
  · have hm1 : (d % 4 == 1) = false := by rw [beq_eq_false_iff_ne]; exact h4
    by_cases h40 : d % 4 = 0
    · have ht0 : (d.tmod 4 == 0) = true := by rw [beq_iff_eq]; exact Int.tmod_eq_zero_of_dvd (Int.dvd_of_emod_eq_zero h40)
      have ht1 : (d % 4 == 0) = true := by rw [beq_iff_eq]; exact h40
      have hq : d.tdiv 4 = d / 4 := Int.tdiv_eq_ediv_of_dvd (Int.dvd_of_emod_eq_zero h40)
      have hq1 : -30 ≤ d / 4 ∧ d / 4 ≤ 30 := by omega
      have HQ := Lib.hid (fun W => modD_any (d / 4) 4 W (by omega) (by omega) (by omega) (by omega))
      have HG := Lib.hid (fun W => free_any (d / 4) W (by omega) (by omega))
      obtain ⟨hq2, hq3⟩ := hq1
      by_cases h2 : 2 ≤ d / 4 % 4
      · have h3 : d / 4 % 4 ≤ 3 := by omega
        have HE : Hid (fdR d = frB (d / 4).natAbs) := by show _ = _; unfold fdR; rw [decide_eq_true h0, decide_eq_true h1, decide_eq_false h4, decide_eq_true h40, decide_eq_true h2]; simp
        rw [HE.out]
        clear h0 h1 h4 h40 HE
        generalize frB (d / 4).natAbs = B at *
        generalize d / 4 % 4 = R at *
        obtain ⟨q, hqq⟩ : ∃ q, q = d / 4 := ⟨_, rfl⟩
        rw [← hqq] at hq hq2 hq3 HQ HG
        have hqd : d / 4 = q := hqq.symm
        clear hqq
        go_enter Try.func65, Try.ntmps65
        go_wp2_with (first
      | (go_at_call 36; first
         | ((with_reducible refine (HM.out _).mono ?_); rintro e w1 ⟨rfl, rfl⟩)
         | ((with_reducible refine (HQ.out _).mono ?_); rintro e w1 ⟨rfl, rfl⟩)
         | fail)
      | (go_at_call 76; first
         | ((with_reducible refine (HF.out _).mono ?_); rintro e w1 ⟨rfl, rfl⟩)
         | ((with_reducible refine (HG.out _).mono ?_); rintro e w1 ⟨rfl, rfl⟩)
         | fail)
      | fail)
        go_ret
        exact ⟨rfl, rfl⟩
      · have h3 : 0 ≤ d / 4 % 4 := by omega
        have HE : Hid (fdR d = false) := by show _ = _; unfold fdR; rw [decide_eq_false h4, decide_eq_false h2]; simp
        rw [HE.out]
        clear h0 h1 h4 h40 HE
        generalize d / 4 % 4 = R at *
        obtain ⟨q, hqq⟩ : ∃ q, q = d / 4 := ⟨_, rfl⟩
        rw [← hqq] at hq hq2 hq3 HQ HG
        have hqd : d / 4 = q := hqq.symm
        clear hqq
        go_enter Try.func65, Try.ntmps65
        go_wp2_with (first
      | (go_at_call 36; first
         | ((with_reducible refine (HM.out _).mono ?_); rintro e w1 ⟨rfl, rfl⟩)
         | ((with_reducible refine (HQ.out _).mono ?_); rintro e w1 ⟨rfl, rfl⟩)
         | fail)
      | (go_at_call 76; first
         | ((with_reducible refine (HF.out _).mono ?_); rintro e w1 ⟨rfl, rfl⟩)
         | ((with_reducible refine (HG.out _).mono ?_); rintro e w1 ⟨rfl, rfl⟩)
         | fail)
      | fail)
        go_ret
        exact ⟨rfl, rfl⟩
    · have ht0 : (d.tmod 4 == 0) = false := by rw [beq_eq_false_iff_ne]; intro h; have := Int.emod_eq_zero_of_dvd (Int.dvd_of_tmod_eq_zero h); omega
      have ht1 : (d % 4 == 0) = false := by rw [beq_eq_false_iff_ne]; exact h40
      have HE : Hid (fdR d = false) := by show _ = _; unfold fdR; rw [decide_eq_false h4, decide_eq_false h40]; simp
      rw [HE.out]
      clear h0 h1 h4 h40 HE
      go_enter Try.func65, Try.ntmps65
      go_wp2_with (first
      | (go_at_call 36; first
         | ((with_reducible refine (HM.out _).mono ?_); rintro e w1 ⟨rfl, rfl⟩)
         | ((with_reducible refine (HQ.out _).mono ?_); rintro e w1 ⟨rfl, rfl⟩)
         | fail)
      | (go_at_call 76; first
         | ((with_reducible refine (HF.out _).mono ?_); rintro e w1 ⟨rfl, rfl⟩)
         | ((with_reducible refine (HG.out _).mono ?_); rintro e w1 ⟨rfl, rfl⟩)
         | fail)
      | fail)
      go_ret
      exact ⟨rfl, rfl⟩
end Go.Proofs.Ytdbleaalpdemnaa
namespace Go.Proofs.Ytdbleaalpdemnaa
open Go.RowKit
set_option linter.unusedVariables false
set_option linter.unusedSimpArgs false

theorem syV_cases (d : Int) (p : Nat) : -1 ≤ syV d p ∧ syV d p ≤ 1 := by
  unfold syV
  split
  · omega
  · split
    · split <;> omega
    · split <;> omega
theorem sy_hit {d : Int} {p t : Nat} (h0 : d % (p : Int) ≠ 0) (h2 : p ≠ 2) (ht : t < p - 1) (h : (((t + 1 : Nat) : Int) * ((t + 1 : Nat) : Int) - d) % (p : Int) = 0) : syV d p = 1 := by
  unfold syV
  rw [if_neg h0, if_neg h2, if_pos]
  exact List.any_eq_true.2 ⟨t, List.mem_range.2 ht, decide_eq_true h⟩
theorem sy_miss {d : Int} {p : Nat} (h0 : d % (p : Int) ≠ 0) (h2 : p ≠ 2) (h : ∀ t, t < p - 1 → (((t + 1 : Nat) : Int) * ((t + 1 : Nat) : Int) - d) % (p : Int) ≠ 0) : syV d p = -1 := by
  unfold syV
  rw [if_neg h0, if_neg h2, if_neg]
  intro he
  obtain ⟨t, ht, e⟩ := List.any_eq_true.1 he
  exact h t (List.mem_range.1 ht) (of_decide_eq_true e)
set_option maxHeartbeats 3200000 in
set_option maxRecDepth 1000000 in
theorem rsy_any (d : Int) (p : Nat) (w : World) (d1 : -120 ≤ d) (d2 : d ≤ 120) (p1 : 2 ≤ p) (p2 : (p : Int) ≤ 120) :
    Calls Try.prog 77 #[.int .i64 d, .int .i64 (p : Int)] w fun e w' => e = .returned (.int .i64 (syV d p)) ∧ w = w' := by
  have hp0 : ((p : Int) == 0) = false := by rw [beq_eq_false_iff_ne]; omega
  have hpi : 2 ≤ (p : Int) := by omega
  have htb : (d.tmod (p : Int)).natAbs ≤ 120 := by rw [Int.natAbs_tmod]; have := Nat.mod_le d.natAbs (p : Int).natAbs; omega
  by_cases h0 : d % (p : Int) = 0
  · have HE : Hid ((0 : Int) = syV d p) := by show _ = _; unfold syV; rw [if_pos h0]
    have e1 : (d % (p : Int) == 0) = true := by rw [beq_iff_eq]; exact h0
    have e2 : (d.tmod (p : Int) == 0) = true := by rw [beq_iff_eq]; exact Int.tmod_eq_zero_of_dvd (Int.dvd_of_emod_eq_zero h0)
    clear h0
    go_enter Try.func77, Try.ntmps77
    go_wp2
    go_ret
    exact ⟨ret_int' HE.out, rfl⟩
  have e1 : (d % (p : Int) == 0) = false := by rw [beq_eq_false_iff_ne]; exact h0
  have e2 : (d.tmod (p : Int) == 0) = false := by rw [beq_eq_false_iff_ne]; intro h; exact h0 (Int.emod_eq_zero_of_dvd (Int.dvd_of_tmod_eq_zero h))
  by_cases hp2 : p = 2
  · subst hp2
    have e2' : (d.tmod 2 == 0) = false := e2
    have e1' : (d % 2 == 0) = false := e1
    clear e1 e2 hp0 hpi htb
    have HM := Lib.hid (fun V => modD_any d 8 V (by omega) (by omega) (by omega) (by omega))
    have hr1 : 0 ≤ d % 8 := by omega
    have hr2 : d % 8 ≤ 7 := by omega
    by_cases h1 : d % 8 = 1
    · have HE : Hid ((1 : Int) = syV d 2) := by show _ = _; unfold syV; rw [if_neg h0, if_pos rfl, if_pos (.inl h1)]
      rw [h1] at HM
      clear h0 h1
      go_enter Try.func77, Try.ntmps77
      go_wp2_with (first
        | (go_at_call 36; ((with_reducible refine (HM.out _).mono ?_); rintro e w1 ⟨rfl, rfl⟩))
        | fail)
      go_ret
      exact ⟨ret_int' HE.out, rfl⟩
    · have f1 : (d % 8 == 1) = false := by rw [beq_eq_false_iff_ne]; exact h1
      by_cases h7 : d % 8 = 7
      · have HE : Hid ((1 : Int) = syV d 2) := by show _ = _; unfold syV; rw [if_neg h0, if_pos rfl, if_pos (.inr h7)]
        rw [h7] at HM
        clear h0 h1 h7 f1
        go_enter Try.func77, Try.ntmps77
        go_wp2_with (first
          | (go_at_call 36; ((with_reducible refine (HM.out _).mono ?_); rintro e w1 ⟨rfl, rfl⟩))
          | fail)
        go_ret
        exact ⟨ret_int' HE.out, rfl⟩
      · have f7 : (d % 8 == 7) = false := by rw [beq_eq_false_iff_ne]; exact h7
        have HE : Hid ((-1 : Int) = syV d 2) := by show _ = _; unfold syV; rw [if_neg h0, if_pos rfl, if_neg (by omega)]
        clear h0 h1 h7
        generalize d % 8 = r at *
        go_enter Try.func77, Try.ntmps77
        go_wp2_with (first
          | (go_at_call 36; ((with_reducible refine (HM.out _).mono ?_); rintro e w1 ⟨rfl, rfl⟩))
          | fail)
        go_ret
        exact ⟨ret_int' HE.out, rfl⟩
  · have f2 : ((p : Int) == 2) = false := by rw [beq_eq_false_iff_ne]; omega
    have HH := Lib.hid (fun (t : Nat) (ht : t < p - 1) (h : (((t + 1 : Nat) : Int) * ((t + 1 : Nat) : Int) - d) % (p : Int) = 0) => sy_hit h0 hp2 ht h)
    have HN := Lib.hid (fun (h : ∀ t, t < p - 1 → (((t + 1 : Nat) : Int) * ((t + 1 : Nat) : Int) - d) % (p : Int) ≠ 0) => sy_miss h0 hp2 h)
    have HM := Lib.hid (fun (a : Int) (V : World) (a1 : -1000001 ≤ a) (a2 : a ≤ 1000001) => modD_any a (p : Int) V a1 a2 (by omega) (by omega))
    clear h0 hp2
    go_enter Try.func77, Try.ntmps77
    go_wp2
    go_loop [6] (fun X => ∃ t : Nat, X = .int .i64 ((t + 1 : Nat) : Int) ∧ t + 1 ≤ p ∧ Hid (∀ j, j < t → (((j + 1 : Nat) : Int) * ((j + 1 : Nat) : Int) - d) % (p : Int) ≠ 0)) (fun X => p - (intOf X).toNat)
    case atStart => exact ⟨0, rfl, by omega, fun j hj => absurd hj (by omega)⟩
    case round =>
      obtain ⟨t, rfl, ht, HJ⟩ := hrel
      have hh := HH.out t
      obtain ⟨x, hx⟩ : ∃ x, x = t + 1 := ⟨_, rfl⟩
      have Hx := Lib.hid hx
      rw [← hx] at hh ht ⊢
      have hx1 : 1 ≤ (x : Int) := by omega
      have hx2 : (x : Int) ≤ 120 := by omega
      have hsq : (x : Int) * (x : Int) = ((x * x : Nat) : Int) := (Int.natCast_mul x x).symm
      have hb : x * x ≤ 14400 := Nat.mul_le_mul (show x ≤ 120 by omega) (show x ≤ 120 by omega)
      rw [hsq] at hh
      by_cases hlt : x < p
      · have hlti : (x : Int) < (p : Int) := by omega
        have HMx := Lib.hid (fun V => HM.out (((x * x : Nat) : Int) - d) V (by omega) (by omega))
        by_cases e : (((x * x : Nat) : Int) - d) % (p : Int) = 0
        · have HE : Hid ((1 : Int) = syV d p) := (hh (by omega) e).symm
          rw [e] at HMx
          clear hh e hx
          generalize x * x = z at *
          go_wp2_with (first
            | (go_at_call 36; ((with_reducible refine (HMx.out _).mono ?_); rintro e w1 ⟨rfl, rfl⟩))
            | fail)
          go_ret
          exact ⟨ret_int' HE.out, rfl⟩
        · have He : Hid ((((t + 1 : Nat) : Int) * ((t + 1 : Nat) : Int) - d) % (p : Int) ≠ 0) := by
            show _ ≠ _
            rw [← hx, hsq]; exact e
          have hne : ((((x * x : Nat) : Int) - d) % (p : Int) == 0) = false := by rw [beq_eq_false_iff_ne]; exact e
          clear hh e hx
          generalize x * x = z at *
          generalize ((z : Int) - d) % (p : Int) = r at *
          go_wp2_with (first
            | (go_at_call 36; ((with_reducible refine (HMx.out _).mono ?_); rintro e w1 ⟨rfl, rfl⟩))
            | fail)
          go_round
          case rel => exact ⟨x, by go_num, by omega, fun j hj => by
            by_cases h : j < t
            · exact HJ.out j h
            · obtain rfl : j = t := by have := Hx.out; omega
              exact He.out⟩
          case measure => have := Hx.out; simp [intOf]; omega
      · have hlti : ¬ (x : Int) < (p : Int) := by omega
        have HE : Hid ((-1 : Int) = syV d p) := (HN.out (fun j hj => HJ.out j (by omega))).symm
        clear hh hx
        go_wp2
        go_ret
        exact ⟨ret_int' HE.out, rfl⟩
/-- The reference's symbol: one step. -/
theorem rkL_one (d : Int) : ∀ f p a, a ≤ 1 → rkL d f p a = 1
  | 0, _, _, _ => rfl
  | f + 1, p, a, h => by unfold rkL; rw [if_pos h]
theorem rkL_hit (d : Int) {f p a : Nat} (h1 : 1 < a) (h : a % p = 0) : rkL d (f + 1) p a = syV d p * rkL d f p (a / p) := by
  show (if a ≤ 1 then 1 else if a % p = 0 then syV d p * rkL d f p (a / p) else rkL d f (p + 1) a) = _
  rw [if_neg (by omega), if_pos h]
theorem rkL_miss (d : Int) {f p a : Nat} (h1 : 1 < a) (h : a % p ≠ 0) : rkL d (f + 1) p a = rkL d f (p + 1) a := by
  show (if a ≤ 1 then 1 else if a % p = 0 then syV d p * rkL d f p (a / p) else rkL d f (p + 1) a) = _
  rw [if_neg (by omega), if_neg h]
theorem tri_mul {x y : Int} (hx : -1 ≤ x ∧ x ≤ 1) (hy : -1 ≤ y ∧ y ≤ 1) : -1 ≤ x * y ∧ x * y ≤ 1 := by
  have : x = -1 ∨ x = 0 ∨ x = 1 := by omega
  rcases this with h | h | h <;> rw [h] <;> omega
theorem clear_le {a p : Nat} (h : Clear a p) (h1 : 1 < a) : p ≤ a := by
  rcases Nat.lt_or_ge a p with h2 | h2
  · exact absurd (Nat.mod_self a) (h a (by omega) h2)
  · exact h2
theorem clear_next {a p : Nat} (h : Clear a p) (h1 : a % p ≠ 0) : Clear a (p + 1) := fun e he hep => by
  rcases Nat.lt_or_ge e p with h2 | h2
  · exact h e he h2
  · obtain rfl : e = p := by omega
    exact h1
theorem clear_div {a p : Nat} (h : Clear a p) (h0 : a % p = 0) (hp : 2 ≤ p) : Clear (a / p) p := fun e he hep => by
  intro h1
  refine h e he hep ?_
  have h2 : e ∣ a / p := Nat.dvd_of_mod_eq_zero h1
  have h3 : a / p ∣ a := Nat.div_dvd_of_dvd (Nat.dvd_of_mod_eq_zero h0)
  exact Nat.mod_eq_zero_of_dvd (Nat.dvd_trans h2 h3)
set_option maxHeartbeats 3200000 in
set_option maxRecDepth 1000000 in
theorem rkron_any (d : Int) (a0 : Nat) (w : World) (d1 : -120 ≤ d) (d2 : d ≤ 120) (a1 : 1 ≤ a0) (a2 : (a0 : Int) ≤ 120) :
    Calls Try.prog 66 #[.int .i64 d, .int .i64 (a0 : Int)] w fun e w' => e = .returned (.int .i64 (rkV d a0)) ∧ w = w' := by
  have HSy := Lib.hid (fun (p : Nat) (V : World) (p1 : 2 ≤ p) (p2 : (p : Int) ≤ 120) => rsy_any d p V d1 d2 p1 p2)
  have HSc := Lib.hid (fun p => syV_cases d p)
  have HV : Hid (rkV d a0 = rkL d 300 2 a0) := rfl
  go_enter Try.func66, Try.ntmps66
  go_wp2
  go_loop [1, 5, 6] (fun A X P => ∃ (f p a : Nat) (x : Int), A = .int .i64 (a : Int) ∧ X = .int .i64 x ∧ P = .int .i64 (p : Int) ∧ 1 ≤ a ∧ a ≤ 120 ∧ 2 ≤ p ∧ p ≤ 121 ∧ (-1 ≤ x ∧ x ≤ 1) ∧ Hid (a + 121 - p ≤ f) ∧ Hid (Clear a p) ∧ Hid (x * rkL d f p a = rkV d a0)) (fun A _ P => (intOf A).toNat + 121 - (intOf P).toNat)
  case atStart => exact ⟨300, 2, a0, 1, rfl, rfl, rfl, a1, by omega, by omega, by omega, by omega, by show _ ≤ _; omega, fun e h1 h2 => absurd h1 (by omega), by show _ = _; rw [Int.one_mul, HV.out]⟩
  case round =>
    obtain ⟨f, p, a, x, rfl, rfl, rfl, ha1, ha2, hp1, hp2, ⟨x1, x2⟩, HF, HC, HX⟩ := hrel
    by_cases hgt : 1 < a
    · have hgti : 1 < (a : Int) := by omega
      have hpa := clear_le HC.out hgt
      have hp3 : (p : Int) ≤ 120 := by omega
      have HSp := Lib.hid (fun V => HSy.out p V hp1 hp3)
      obtain ⟨sc1, sc2⟩ := HSc.out p
      have hpi : 2 ≤ (p : Int) := by omega
      have hp0 : ((p : Int) == 0) = false := by rw [beq_eq_false_iff_ne]; omega
      obtain ⟨s0, hs0⟩ : ∃ s, s = syV d p := ⟨_, rfl⟩
      rw [← hs0] at HSp sc1 sc2
      have HS0 := Lib.hid hs0
      clear hs0
      go_wp2
      go_loop [1, 5] (fun B Y => ∃ (g b : Nat) (y : Int), B = .int .i64 (b : Int) ∧ Y = .int .i64 y ∧ 1 ≤ b ∧ b ≤ a ∧ (-1 ≤ y ∧ y ≤ 1) ∧ Hid (b + 121 - p ≤ g) ∧ Hid (Clear b p) ∧ Hid (y * rkL d g p b = rkV d a0)) (fun B _ => (intOf B).toNat)
      case atStart => exact ⟨f, a, x, rfl, rfl, ha1, Nat.le_refl _, ⟨x1, x2⟩, HF.out, HC.out, HX.out⟩
      case round =>
        obtain ⟨g, b, y, rfl, rfl, hb1, hb2, ⟨y1, y2⟩, HG, HCb, HY⟩ := hrel
        have hbi : (b : Int) ≤ 120 := by omega
        have hmod : (b : Int) % (p : Int) = ((b % p : Nat) : Int) := (Int.natCast_emod b p).symm
        have hdv : (b : Int) / (p : Int) = ((b / p : Nat) : Int) := (Int.natCast_ediv _ _).symm
        by_cases e : b % p = 0
        · have hbg : 1 < b := by
            rcases Nat.lt_or_ge 1 b with h | h
            · exact h
            · obtain rfl : b = 1 := by omega
              rw [Nat.mod_eq_of_lt (by omega)] at e; omega
          rw [e] at hmod
          obtain ⟨g, rfl⟩ : ∃ g', g = g' + 1 := ⟨g - 1, by have := HG.out; have := clear_le HCb.out hbg; omega⟩
          have hq1 : 1 ≤ b / p := Nat.div_pos (clear_le HCb.out hbg) (by omega)
          have hq2 : b / p < b := Nat.div_lt_self hb1 (by omega)
          have HG2 : Hid (b / p + 121 - p ≤ g) := by have := HG.out; have := clear_le HCb.out hbg; show _ ≤ _; omega
          have HC2 := Lib.hid (clear_div HCb.out e hp1)
          have HY2 : Hid (y * s0 * rkL d g p (b / p) = rkV d a0) := by
            show _ = _
            rw [← HY.out, rkL_hit d hbg e, HS0.out, Int.mul_assoc]
          obtain ⟨m1, m2⟩ := tri_mul ⟨y1, y2⟩ ⟨sc1, sc2⟩
          clear HY HCb HG e
          generalize b / p = q at *
          have hqi : (q : Int) ≤ 120 := by omega
          go_wp2_with (first
            | (go_at_call 77; ((with_reducible refine (HSp.out _).mono ?_); rintro e w1 ⟨rfl, rfl⟩))
            | fail)
          go_round
          case rel => exact ⟨g, q, y * s0, rfl, rfl, hq1, by omega, ⟨m1, m2⟩, HG2.out, HC2.out, HY2.out⟩
          case measure => simp [intOf]; omega
        · have hne : (((b : Int) % (p : Int)) == 0) = false := by rw [hmod, beq_eq_false_iff_ne]; omega
          have HCn := Lib.hid (clear_next HCb.out e)
          have HY2 : Hid (∃ g', b + 121 - (p + 1) ≤ g' ∧ y * rkL d g' (p + 1) b = rkV d a0) := by
            by_cases hbg : 1 < b
            · obtain ⟨g', rfl⟩ : ∃ g', g = g' + 1 := ⟨g - 1, by have := HG.out; omega⟩
              exact ⟨g', by have := HG.out; omega, by rw [← HY.out, rkL_miss d hbg e]⟩
            · exact ⟨g + 1, by have := HG.out; omega, by rw [← HY.out, rkL_one d _ _ b (by omega), rkL_one d _ _ b (by omega)]⟩
          clear hmod hdv e HY HCb HG
          obtain ⟨g', hg', hy'⟩ := HY2.out
          have HG3 := Lib.hid hg'
          have HY3 := Lib.hid hy'
          clear hg' hy' HY2
          go_wp2
          go_round
          case rel => exact ⟨g', p + 1, b, y, rfl, rfl, by go_num, hb1, by omega, by omega, by omega, ⟨y1, y2⟩, HG3.out, HCn.out, HY3.out⟩
          case measure => simp [intOf]; omega
    · have hgti : ¬ 1 < (a : Int) := by omega
      have HE : Hid (x = rkV d a0) := by show _ = _; rw [← HX.out, rkL_one d _ _ a (by omega), Int.mul_one]
      go_wp2
      go_ret
      exact ⟨ret_int' HE.out, rfl⟩
end Go.Proofs.Ytdbleaalpdemnaa
namespace Go.Proofs.Ytdbleaalpdemnaa
open Go.RowKit
set_option linter.unusedVariables false
set_option linter.unusedSimpArgs false

set_option maxHeartbeats 1600000 in
set_option maxRecDepth 1000000 in
/-- Quadratic outside the range, and of what is no fundamental discriminant. -/
theorem dquad_bad (D : Int) (w : World) (hf : ¬ (-60 ≤ D ∧ D ≤ 60 ∧ D ≠ 0 ∧ fdB D = true)) :
    Calls Try.prog 44 #[.int .i64 D] w fun e w' => e = .returned (.tuple #[.agg #[.int .i64 0, .slice none 0 0], .int .i64 (if -60 ≤ D ∧ D ≤ 60 ∧ D ≠ 0 then 15 else 2)]) ∧ Below w.heap.size w w' := by
  have R0 : Hid (((w.alloc (.cells #[.int .i64 D] 3)).alloc (.cells #[.int .i64 0, .slice none 0 0] 33)).heap[w.heap.size + 1]? = some (.cells #[.int .i64 0, .slice none 0 0] 33 (0, 0))) := by
    have := heap_alloc_new (w.alloc (.cells #[.int .i64 D] 3)) (.cells #[.int .i64 0, .slice none 0 0] 33)
    show _ = _
    simpa using this
  have T0 : Hid (((w.alloc (.cells #[.int .i64 D] 3)).alloc (.cells #[.int .i64 0, .slice none 0 0] 33)).heap[w.heap.size]? = some (.cells #[.int .i64 D] 3 (0, 0))) := block_alloc (heap_alloc_new w _) _
  have B0 : Hid (Below w.heap.size w ((w.alloc (.cells #[.int .i64 D] 3)).alloc (.cells #[.int .i64 0, .slice none 0 0] 33))) := below2 w _ _
  have c0 := cell_of_one T0.out
  by_cases hr : -60 ≤ D ∧ D ≤ 60 ∧ D ≠ 0
  · rw [if_pos hr]
    obtain ⟨d1, d2, h0⟩ := hr
    have hfb : fdB D ≠ true := fun h => hf ⟨d1, d2, h0, h⟩
    have i1 : ¬ D < -60 := by omega
    have i2 : (D == 0) = false := by rw [beq_eq_false_iff_ne]; exact h0
    have i3 : ¬ 60 < D := by omega
    by_cases h4 : D % 4 < 2
    · have he : funV D ≠ D := fun he => hfb (by unfold fdB; rw [decide_eq_true h0, decide_eq_true h4, decide_eq_true he]; rfl)
      have HF := Lib.hid (fun W => fund_F D (sgn D) D.natAbs (facs 2 D.natAbs) W rfl h0 rfl (by omega) rfl h4)
      clear h4 hfb hf
      go_enter Try.func44, Try.ntmps44
      go_wp2_with (first
        | (go_at_call 62; ((with_reducible refine (HF.out _).mono ?_); rintro e w1 ⟨disc, f, rfl, hh, hb⟩; have HB := Lib.hid (B0.out.trans (hb.mono B0.out.size)); have R1 := Lib.hid (block_below R0.out hb); have T1 := Lib.hid (block_below T0.out hb); have hdd := funV_of rfl hh.out; have hne : (disc == D) = false := (by rw [beq_eq_false_iff_ne, hdd]; exact he); have hne2 : (disc != D) = true := (by rw [bne_iff_ne, hdd]; exact he); clear hb hh hdd HF c0; have c1 := cell_of_one T1.out; obtain ⟨r0, r1, rf⟩ := cells_two R1.out))
        | fail)
      have R4 := Lib.hid (two_setC R1.out (.int .i64 0) (.slice none 0 0))
      obtain ⟨s0, s1, sf⟩ := cells_two R4.out
      have HB4 := Lib.hid ((HB.out.setCell (p := ⟨w.heap.size + 1, 0, none⟩) (by show w.heap.size ≤ w.heap.size + 1; omega) (.int .i64 0)).setCell (p := ⟨w.heap.size + 1, 1, none⟩) (by show w.heap.size ≤ w.heap.size + 1; omega) (.slice none 0 0))
      refine bodyPost_ret (v := .tuple #[.agg #[.int .i64 0, .slice none 0 0], .int .i64 15]) ?_ rfl ⟨rfl, HB4.out⟩
      simp [results, Try.results44, go_sem, s0, s1]
    · have HF := Lib.hid (fun W => fund_disc D W (by omega) (by omega) h4)
      clear h4 hfb hf
      go_enter Try.func44, Try.ntmps44
      go_wp2_with (first
        | (go_at_call 62; ((with_reducible refine (HF.out _).mono ?_); rintro e w1 ⟨rfl, hb⟩; have HB := Lib.hid (B0.out.trans (hb.mono B0.out.size)); have R1 := Lib.hid (block_below R0.out hb); clear hb HF c0; obtain ⟨r0, r1, rf⟩ := cells_two R1.out))
        | fail)
      have R4 := Lib.hid (two_setC R1.out (.int .i64 0) (.slice none 0 0))
      obtain ⟨s0, s1, sf⟩ := cells_two R4.out
      have HB4 := Lib.hid ((HB.out.setCell (p := ⟨w.heap.size + 1, 0, none⟩) (by show w.heap.size ≤ w.heap.size + 1; omega) (.int .i64 0)).setCell (p := ⟨w.heap.size + 1, 1, none⟩) (by show w.heap.size ≤ w.heap.size + 1; omega) (.slice none 0 0))
      refine bodyPost_ret (v := .tuple #[.agg #[.int .i64 0, .slice none 0 0], .int .i64 15]) ?_ rfl ⟨rfl, HB4.out⟩
      simp [results, Try.results44, go_sem, s0, s1]
  · rw [if_neg hr]
    have hz : (D < -60) ∨ (¬ D < -60 ∧ D = 0) ∨ (¬ D < -60 ∧ D ≠ 0 ∧ 60 < D) := by omega
    clear hr hf
    have HBf : Hid (Below w.heap.size w ((w.alloc (.cells #[.int .i64 D] 3)).alloc (.cells #[.int .i64 0, .slice none 0 0] 33))) := B0.out
    obtain ⟨r0, r1, rf⟩ := cells_two R0.out
    rcases hz with h | ⟨h1, rfl⟩ | ⟨h1, h2, h3⟩
    · go_enter Try.func44, Try.ntmps44
      go_wp2
      refine bodyPost_ret (v := .tuple #[.agg #[.int .i64 0, .slice none 0 0], .int .i64 2]) ?_ rfl ⟨rfl, HBf.out⟩
      simp [results, Try.results44, go_sem, r0, r1]
    · go_enter Try.func44, Try.ntmps44
      go_wp2
      refine bodyPost_ret (v := .tuple #[.agg #[.int .i64 0, .slice none 0 0], .int .i64 2]) ?_ rfl ⟨rfl, HBf.out⟩
      simp [results, Try.results44, go_sem, r0, r1]
    · have e0 : (D == 0) = false := by rw [beq_eq_false_iff_ne]; exact h2
      go_enter Try.func44, Try.ntmps44
      go_wp2
      refine bodyPost_ret (v := .tuple #[.agg #[.int .i64 0, .slice none 0 0], .int .i64 2]) ?_ rfl ⟨rfl, HBf.out⟩
      simp [results, Try.results44, go_sem, r0, r1]
end Go.Proofs.Ytdbleaalpdemnaa
namespace Go.Proofs.Ytdbleaalpdemnaa
open Go.RowKit
set_option linter.unusedVariables false
set_option linter.unusedSimpArgs false

def qrX (D : Int) (g : Nat × Nat) : Int := if rkV D g.1 < 0 then ((g.2 / 2 : Nat) : Int) else 0
/-- What is decided of the quadratic characters. -/
def quOk (D : Int) : Bool :=
  let T := tbV D.natAbs (quE D D.natAbs)
  decide ((gensV D.natAbs).map (qrX D) = quE D D.natAbs) && decide (ckX D.natAbs (quE D D.natAbs) = 0) && decide (ordV D.natAbs (quE D D.natAbs) = if D = 1 then 1 else 2) && pdV T D.natAbs && ((List.range D.natAbs).all fun f => f = 0 || !pdV T f) && decide (rouN (T.getD (D.natAbs - 1) 0) (tbM (gensV D.natAbs)) = 0 ↔ 0 < D) && ((gensV D.natAbs).all fun g => decide (1 ≤ g.1))
set_option maxRecDepth 1000000 in
theorem qu_all : (fd6.all quOk) = true := by decide +kernel
structure QuF (D : Int) : Prop where
  e : (gensV D.natAbs).map (qrX D) = quE D D.natAbs
  ck : ckX D.natAbs (quE D D.natAbs) = 0
  o : ordV D.natAbs (quE D D.natAbs) = if D = 1 then 1 else 2
  pd : pdV (tbV D.natAbs (quE D D.natAbs)) D.natAbs = true
  np : ∀ f, 1 ≤ f → f < D.natAbs → pdV (tbV D.natAbs (quE D D.natAbs)) f = false
  ev : rouN ((tbV D.natAbs (quE D D.natAbs)).getD (D.natAbs - 1) 0) (tbM (gensV D.natAbs)) = 0 ↔ 0 < D
  g1 : ∀ g ∈ gensV D.natAbs, 1 ≤ g.1
theorem qu_of {D : Int} (d1 : -60 ≤ D) (d2 : D ≤ 60) (h : fdB D = true) : QuF D := by
  have h1 := List.all_eq_true.1 qu_all D (fd6_mem d1 d2 h)
  unfold quOk at h1
  simp only [Bool.and_eq_true, decide_eq_true_eq] at h1
  obtain ⟨⟨⟨⟨⟨⟨a, b⟩, c⟩, d⟩, e⟩, f⟩, g⟩ := h1
  refine ⟨a, b, c, d, fun f f1 f2 => ?_, f, fun g' hg => by simpa using List.all_eq_true.1 g g' hg⟩
  have h3 := List.all_eq_true.1 e f (List.mem_range.2 f2)
  simp only [Bool.or_eq_true, decide_eq_true_eq, Bool.not_eq_true'] at h3
  rcases h3 with h3 | h3
  · omega
  · exact h3
set_option maxHeartbeats 1600000 in
set_option maxRecDepth 1000000 in
theorem rquad_bad (D : Int) (w : World) (hf : ¬ (-60 ≤ D ∧ D ≤ 60 ∧ D ≠ 0 ∧ fdB D = true)) :
    Calls Try.prog 45 #[.int .i64 D] w fun e w' => e = .returned (.tuple #[.agg #[.int .i64 0, .slice none 0 0], .int .i64 (if -60 ≤ D ∧ D ≤ 60 ∧ D ≠ 0 then 15 else 2)]) ∧ Below w.heap.size w w' := by
  have R0 : Hid ((w.alloc (.cells #[.int .i64 0, .slice none 0 0] 33)).heap[w.heap.size]? = some (.cells #[.int .i64 0, .slice none 0 0] 33 (0, 0))) := heap_alloc_new w _
  have B0 : Hid (Below w.heap.size w (w.alloc (.cells #[.int .i64 0, .slice none 0 0] 33))) := below1 w _
  obtain ⟨r0, r1, rf⟩ := cells_two R0.out
  by_cases hr : -60 ≤ D ∧ D ≤ 60 ∧ D ≠ 0
  · rw [if_pos hr]
    obtain ⟨d1, d2, h0⟩ := hr
    have hfb : fdB D = false := by
      rw [Bool.eq_false_iff]; exact fun h => hf ⟨d1, d2, h0, h⟩
    rw [fd_all D (by omega) (by omega), Bool.or_eq_false_iff, decide_eq_false_iff_not] at hfb
    obtain ⟨h1, h2⟩ := hfb
    have HFu := Lib.hid (fun W => rfun_any D W (by omega) (by omega))
    rw [h2] at HFu
    have i1 : ¬ D < -60 := by omega
    have i2 : (D == 0) = false := by rw [beq_eq_false_iff_ne]; exact h0
    have i3 : ¬ 60 < D := by omega
    have i4 : (D != 1) = true := by rw [bne_iff_ne]; exact h1
    clear hf h2
    go_enter Try.func45, Try.ntmps45
    go_wp2_with (first
      | (go_at_call 65; ((with_reducible refine (HFu.out _).mono ?_); rintro e w1 ⟨rfl, rfl⟩))
      | fail)
    refine bodyPost_ret (v := .tuple #[.agg #[.int .i64 0, .slice none 0 0], .int .i64 15]) ?_ rfl ⟨rfl, ?_⟩
    · simp [results, Try.results45, go_sem, r0, r1]
    · first | exact B0.out | exact (B0.out.setCell (Nat.le_refl _) _).setCell (Nat.le_refl _) _
  · rw [if_neg hr]
    have hz : D = 0 ∨ (D ≠ 0 ∧ D < -60) ∨ (D ≠ 0 ∧ ¬ D < -60 ∧ 60 < D) := by omega
    clear hr hf
    rcases hz with rfl | ⟨h1, h2⟩ | ⟨h1, h2, h3⟩
    · go_enter Try.func45, Try.ntmps45
      go_wp2
      refine bodyPost_ret (v := .tuple #[.agg #[.int .i64 0, .slice none 0 0], .int .i64 2]) ?_ rfl ⟨rfl, ?_⟩
      · simp [results, Try.results45, go_sem, r0, r1]
      · first | exact B0.out | exact (B0.out.setCell (Nat.le_refl _) _).setCell (Nat.le_refl _) _
    · have e0 : (D == 0) = false := by rw [beq_eq_false_iff_ne]; exact h1
      go_enter Try.func45, Try.ntmps45
      go_wp2
      refine bodyPost_ret (v := .tuple #[.agg #[.int .i64 0, .slice none 0 0], .int .i64 2]) ?_ rfl ⟨rfl, ?_⟩
      · simp [results, Try.results45, go_sem, r0, r1]
      · first | exact B0.out | exact (B0.out.setCell (Nat.le_refl _) _).setCell (Nat.le_refl _) _
    · have e0 : (D == 0) = false := by rw [beq_eq_false_iff_ne]; exact h1
      go_enter Try.func45, Try.ntmps45
      go_wp2
      refine bodyPost_ret (v := .tuple #[.agg #[.int .i64 0, .slice none 0 0], .int .i64 2]) ?_ rfl ⟨rfl, ?_⟩
      · simp [results, Try.results45, go_sem, r0, r1]
      · first | exact B0.out | exact (B0.out.setCell (Nat.le_refl _) _).setCell (Nat.le_refl _) _
/-- A character that grows: its box at tb, its row above C. -/
structure OW (B C tb : Nat) (w0 w2 : World) (n : Nat) (v : Value) (E : List Int) (w : World) : Prop where
  tc : tb < C
  tB : B ≤ tb
  size : C ≤ w.heap.size
  box : w.heap[tb]? = some (.cells #[.int .i64 (n : Int), v] 33 (0, 0))
  own : w.ownsRow C 3 1 v E.length (zs E)
  keep : ∀ j, j < C → j ≠ tb → w.heap[j]? = w2.heap[j]?
  below : Below B w0 w
theorem OW.push {B C tb : Nat} {w0 w2 w w1 : World} {n : Nat} {v v' : Value} {E : List Int} {x : Int} {o : Obj} (h : OW B C tb w0 w2 n v E w)
    (hown : w1.ownsRow C 3 1 v' (E.length + 1) (zs E ++ [.int .i64 x])) (hg : (w.alloc o).grownBy w1 v.ownBlock) :
    w1.heap[tb]? = some (.cells #[.int .i64 (n : Int), v] 33 (0, 0)) ∧ OW B C tb w0 w2 n v' (E ++ [x]) (w1.setCell ⟨tb, 1, none⟩ v') := by
  have hs := h.size
  have hc := h.tc
  have hB := h.tB
  have hne : ∀ j, j < C → some j ≠ v.ownBlock := fun j hj e => by have := (h.own.lt j e.symm).1; omega
  have hat : ∀ j, j < C → w1.heap[j]? = w.heap[j]? := fun j hj => by
    rw [hg.block j (by simp; omega) (hne _ hj), Below.heap_alloc _ _ _ (by omega)]
  have h1 : w1.heap[tb]? = some (.cells #[.int .i64 (n : Int), v] 33 (0, 0)) := (hat _ hc).trans h.box
  refine ⟨h1, hc, hB, ?_, ?_, ?_, fun j hj hn => ((Below.heap_setCell _ _ _ _ (by show j ≠ tb; exact hn)).trans (hat j hj)).trans (h.keep j hj hn), ?_⟩
  · have h9 := hg.size; simp at h9; simp; omega
  · exact heap_setCell_same _ tb 1 #[.int .i64 (n : Int), v] _ v' h1
  · rw [zs_append, List.length_append]
    exact ownsRow_setCell_below hown (by show tb < C; omega) _
  · exact ((h.below.alloc (by omega) o).grown hg (by simp; omega) (fun j hj => by have := (h.own.lt j hj).1; omega)).setCell (by show B ≤ tb; omega) _
set_option maxHeartbeats 3200000 in
set_option maxRecDepth 1000000 in
theorem rquad_ok (D : Int) (w : World) (d1 : -60 ≤ D) (d2 : D ≤ 60) (h0 : D ≠ 0) (hf : fdB D = true) :
    Calls Try.prog 45 #[.int .i64 D] w fun e w' => ∃ v, e = .returned (.tuple #[.agg #[.int .i64 (D.natAbs : Nat), v], .int .i64 0]) ∧ w'.ownsRow w.heap.size 3 1 v (quE D D.natAbs).length (zs (quE D D.natAbs)) ∧ Below w.heap.size w w' := by
  have hqf := qu_of d1 d2 hf
  have HE : Hid (((gensV D.natAbs).take (gensV D.natAbs).length).map (qrX D) = quE D D.natAbs) := by show _ = _; rw [List.take_length]; exact hqf.e
  have HG1 := Lib.hid hqf.g1
  have N1 : 1 ≤ D.natAbs := by omega
  have N2 : ((D.natAbs : Nat) : Int) ≤ 60 := by omega
  have hmax : max D (-D) = ((D.natAbs : Nat) : Int) := by omega
  have hneg : IntKind.i64.wrap (-D) = -D := IntWalk.i64_in _ (by omega)
  have HRg : Hid (∀ W : World, Calls Try.prog 16 #[.int .i64 (D.natAbs : Nat)] W fun e w' => ∃ A1 c1 A2 c2, e = .returned (.tuple #[.slice A1 (gensV D.natAbs).length c1, .slice A2 (gensV D.natAbs).length c2]) ∧ RdZ w' w'.heap.size A1 c1 (m1 (gensV D.natAbs)) ∧ RdZ w' w'.heap.size A2 c2 (m2 (gensV D.natAbs)) ∧ Below W.heap.size W w') := fun W => by
    refine (rgenr_any D.natAbs W N1 N2).mono fun e w' ⟨v1, v2, he, h1, h2, hb⟩ => ?_
    obtain ⟨A1, c1, rfl, hr1⟩ := own_rdz h1
    obtain ⟨A2, c2, rfl, hr2⟩ := own_rdz h2
    rw [List.length_map, List.length_map] at he
    exact ⟨A1, c1, A2, c2, he, hr1, hr2, hb⟩
  have HKr := Lib.hid (fun (a : Nat) (h1 : 1 ≤ a) (h2 : (a : Int) ≤ 120) W => rkron_any D a W (by omega) (by omega) h1 h2)
  have HFu := Lib.hid (fun W => rfun_any D W (by omega) (by omega))
  have HGb := Lib.hid (gens_facts N1 (show D.natAbs ≤ 60 by omega))
  have hgl := HGb.out.len
  have HMg1 : Hid (∀ k (h : k < (gensV D.natAbs).length) (h2 : k < (m1 (gensV D.natAbs)).length), (m1 (gensV D.natAbs))[k] = (((gensV D.natAbs)[k].1 : Nat) : Int)) := fun k h h2 => by simp [m1]
  have HMg2 : Hid (∀ k (h : k < (gensV D.natAbs).length) (h2 : k < (m2 (gensV D.natAbs)).length), (m2 (gensV D.natAbs))[k] = (((gensV D.natAbs)[k].2 : Nat) : Int)) := fun k h h2 => by simp [m2]
  have HLl : Hid ((m1 (gensV D.natAbs)).length = (gensV D.natAbs).length ∧ (m2 (gensV D.natAbs)).length = (gensV D.natAbs).length) := ⟨List.length_map .., List.length_map ..⟩
  have R0 : Hid ((w.alloc (.cells #[.int .i64 0, .slice none 0 0] 33)).heap[w.heap.size]? = some (.cells #[.int .i64 0, .slice none 0 0] 33 (0, 0))) := heap_alloc_new w _
  have B0 : Hid (Below w.heap.size w (w.alloc (.cells #[.int .i64 0, .slice none 0 0] 33))) := below1 w _
  have i1 : ¬ D < -60 := by omega
  have i2 : (D == 0) = false := by rw [beq_eq_false_iff_ne]; exact h0
  have i3 : ¬ 60 < D := by omega
  have hfd := hf
  rw [fd_all D (by omega) (by omega), Bool.or_eq_true, decide_eq_true_eq] at hfd
  have hg1 : ¬ ((D != 1) = true ∧ fdR D = false) := fun ⟨h1, h2⟩ => by
    rw [bne_iff_ne] at h1
    rcases hfd with h | h
    · exact h1 h
    · rw [h] at h2; cases h2
  clear hqf hf hfd
  generalize quE D D.natAbs = Q at *
  generalize gensV D.natAbs = G at *
  generalize D.natAbs = n at *
  have hcase : (D = 1) ∨ (D ≠ 1 ∧ fdR D = true) := by
    by_cases h : D = 1
    · exact .inl h
    · refine .inr ⟨h, ?_⟩
      cases hb : fdR D with
      | true => rfl
      | false => exact absurd ⟨by rw [bne_iff_ne]; exact h, hb⟩ hg1
  clear hg1
  obtain ⟨r0, r1, rf⟩ := cells_two R0.out
  rcases hcase with hD1 | ⟨hD1, hfr⟩
  · have i4 : (D != 1) = false := by rw [bne_eq_false_iff_eq]; exact hD1
    clear hD1
    go_enter Try.func45, Try.ntmps45
    go_upto_region 8 with (first
      | (go_at_call 65; ((with_reducible refine (HFu.out _).mono ?_); rintro e w1 ⟨rfl, rfl⟩))
      | (go_at_call 16; ((with_reducible refine (HRg.out _).mono ?_); rintro e w2 ⟨A1, c1, A2, c2, rfl, hr1, hr2, hb⟩; have B2 := Lib.hid (B0.out.trans (hb.mono B0.out.size)); have R2 := Lib.hid (block_below R0.out hb); have HR1 := Lib.hid hr1; have HR2 := Lib.hid hr2; clear hr1 hr2 hb))
      | fail)
    have hs2 := lt_of_block R2.out
    have HO3 : Hid (OW w.heap.size (w2.heap.size + 1) w2.heap.size w (w2.alloc (.cells #[.int .i64 (n : Int), .slice none 0 0] 33)) n (.slice none 0 0) [] (w2.alloc (.cells #[.int .i64 (n : Int), .slice none 0 0] 33))) :=
      ⟨by omega, by omega, by simp, heap_alloc_new w2 _, World.ownsRow_nil _ _ _ _, fun _ _ _ => rfl, B2.out.alloc B2.out.size _⟩
    have HRa : Hid (∀ v E W, OW w.heap.size (w2.heap.size + 1) w2.heap.size w (w2.alloc (.cells #[.int .i64 (n : Int), .slice none 0 0] 33)) n v E W → RdZ W w2.heap.size A1 c1 (m1 G) ∧ RdZ W w2.heap.size A2 c2 (m2 G) ∧ W.heap[w.heap.size]? = some (.cells #[.int .i64 0, .slice none 0 0] 33 (0, 0))) := fun v E W h => by
      have hk : ∀ b o, b < w2.heap.size → W.cell? ⟨b, o, none⟩ = w2.cell? ⟨b, o, none⟩ := fun b o hb => World.cell?_of_block ((h.keep b (by omega) (by omega)).trans (Below.heap_alloc _ _ _ hb))
      exact ⟨HR1.out.keep hk, HR2.out.keep hk, (h.keep _ (by omega) (by omega)).trans ((Below.heap_alloc _ _ _ hs2).trans R2.out)⟩
    generalize (w2.alloc (.cells #[.int .i64 (n : Int), .slice none 0 0] 33)) = w3 at *
    generalize w2.heap.size = tb at *
    go_wp2
    go_loopw [8, 9] (fun I _ wr => ∃ (k : Nat) (v : Value), I = .int .i64 (k : Int) ∧ k ≤ G.length ∧ Hid (OW w.heap.size (tb + 1) tb w w3 n v ((G.take k).map (qrX D)) wr)) (fun I _ _ => G.length - (intOf I).toNat)
    case atStart => exact ⟨0, _, rfl, Nat.zero_le _, HO3.out⟩
    case round =>
      clear HO3
      obtain ⟨k, v, rfl, hk, HO⟩ := hrel
      have HOs := Lib.hid HO.out.size
      by_cases hkl : k < G.length
      · have hkli : (k : Int) < (G.length : Int) := by omega
        obtain ⟨ra1, ra2, _⟩ := HRa.out _ _ _ HO.out
        obtain ⟨b1, o1, rfl, _, y1⟩ := ra1.at_ (k := k) (by rw [HLl.out.1]; exact hkl)
        obtain ⟨b2, o2, rfl, _, y2⟩ := ra2.at_ (k := k) (by rw [HLl.out.2]; exact hkl)
        rw [HMg1.out k hkl] at y1
        rw [HMg2.out k hkl] at y2
        have p60 := HGb.out.v _ (List.getElem_mem hkl)
        have q60 := HGb.out.o2 _ (List.getElem_mem hkl)
        have p1 := HG1.out _ (List.getElem_mem hkl)
        have HN : Hid ((G.take (k + 1)).map (qrX D) = (G.take k).map (qrX D) ++ [qrX D G[k]]) := by
          show _ = _
          rw [List.take_add_one, List.getElem?_eq_getElem hkl, Option.toList_some, List.map_append]; rfl
        have htl : ((G.take k).map (qrX D)).length = k := by rw [List.length_map, List.length_take]; omega
        have HTl := Lib.hid htl
        have hqx : qrX D G[k] = if rkV D G[k].1 < 0 then ((G[k].2 / 2 : Nat) : Int) else 0 := rfl
        have HKk := Lib.hid (HKr.out G[k].1 p1 (by omega))
        clear ra1 ra2 htl
        generalize qrX D G[k] = x at *
        generalize G[k] = f at *
        obtain ⟨p, q⟩ := f
        simp only at y1 y2 p60 q60 p1 hqx HKk
        obtain ⟨z1, z2, zf⟩ := cells_two HO.out.box
        have HOw : Hid (wr.ownsRow (tb + 1) 3 1 v k (zs ((G.take k).map (qrX D)))) := by have := HO.out.own; rw [HTl.out] at this; exact this
        generalize (G.take k).map (qrX D) = L at *
        have hsz : tb + 1 ≤ wr.heap.size := HOs.out
        generalize rkV D p = kv at *
        have hq2 : q / 2 ≤ 30 := by omega
        have htd : Int.tdiv (q : Int) 2 = ((q / 2 : Nat) : Int) := by rw [Int.tdiv_eq_ediv_of_nonneg (by omega)]; omega
        have hdv : (q : Int) / 2 = ((q / 2 : Nat) : Int) := by omega
        generalize q / 2 = qh at *
        have hwq : IntKind.i64.wrap (qh : Int) = (qh : Int) := IntWalk.i64_in _ (by omega)
        by_cases hneg : kv < 0
        · rw [if_pos hneg] at hqx
          subst hqx
          go_wp2_with (first
            | (go_at_call 66; ((with_reducible refine (HKk.out _).mono ?_); rintro e w4 ⟨rfl, rfl⟩))
            | (at_builtin; (refine app_snap _ rfl _ _ rfl (tb + 1) _ _ _ rfl (HOw.out.alloc _) wr.heap.size (.int .i64 (qh : Int)) rfl (cell_one_new _ _ _) rfl (by omega) (by simp; omega) ?_); intro g5 cap5 w5 hown hg hat; obtain ⟨hbx, hxn⟩ := HO.out.push (by rw [HTl.out]; exact hown) hg; have HX := Lib.hid hxn; clear z1 z2 zf; obtain ⟨z1, z2, zf⟩ := cells_two hbx; clear hown hg hat hbx hxn)
            | fail)
          go_roundw
          case rel => exact ⟨k + 1, _, by go_num, by omega, by rw [HN.out]; exact HX.out⟩
          case measure => simp [intOf]; omega
        · rw [if_neg hneg] at hqx
          subst hqx
          go_wp2_with (first
            | (go_at_call 66; ((with_reducible refine (HKk.out _).mono ?_); rintro e w4 ⟨rfl, rfl⟩))
            | (at_builtin; (refine app_snap _ rfl _ _ rfl (tb + 1) _ _ _ rfl (HOw.out.alloc _) wr.heap.size (.int .i64 0) rfl (cell_one_new _ _ _) rfl (by omega) (by simp; omega) ?_); intro g5 cap5 w5 hown hg hat; obtain ⟨hbx, hxn⟩ := HO.out.push (by rw [HTl.out]; exact hown) hg; have HX := Lib.hid hxn; clear z1 z2 zf; obtain ⟨z1, z2, zf⟩ := cells_two hbx; clear hown hg hat hbx hxn)
            | fail)
          go_roundw
          case rel => exact ⟨k + 1, _, by go_num, by omega, by rw [HN.out]; exact HX.out⟩
          case measure => simp [intOf]; omega
      · obtain rfl : k = G.length := by omega
        have hk3 : ¬ (G.length : Int) < (G.length : Int) := by omega
        rw [HE.out] at HO
        obtain ⟨A0, l0, c0, rfl⟩ := ownsRow_slice HO.out.own
        obtain ⟨z1, z2, zf⟩ := cells_two HO.out.box
        have hr0 := (HRa.out _ _ _ HO.out).2.2
        obtain ⟨r0, r1, rf⟩ := cells_two hr0
        have R4 := Lib.hid (two_setC hr0 (.int .i64 (n : Int)) (.slice A0 l0 c0))
        obtain ⟨s0, s1, sf⟩ := cells_two R4.out
        have HOf := Lib.hid (own_base (show w.heap.size ≤ tb + 1 by omega) (ownsRow_setCell_below (ownsRow_setCell_below HO.out.own (a := ⟨w.heap.size, 0, none⟩) (by show w.heap.size < tb + 1; omega) (.int .i64 (n : Int))) (a := ⟨w.heap.size, 1, none⟩) (by show w.heap.size < tb + 1; omega) (.slice A0 l0 c0)))
        have HBf := Lib.hid ((HO.out.below.setCell (p := ⟨w.heap.size, 0, none⟩) (Nat.le_refl _) (.int .i64 (n : Int))).setCell (p := ⟨w.heap.size, 1, none⟩) (Nat.le_refl _) (.slice A0 l0 c0))
        clear hr0
        go_wp2
        refine bodyPost_ret (v := .tuple #[.agg #[.int .i64 (n : Int), .slice A0 l0 c0], .int .i64 0]) ?_ rfl ⟨_, rfl, HOf.out, HBf.out⟩
        simp [results, Try.results45, go_sem, s0, s1]
  · have i4 : (D != 1) = true := by rw [bne_iff_ne]; exact hD1
    rw [hfr] at HFu
    clear hD1 hfr
    go_enter Try.func45, Try.ntmps45
    go_upto_region 8 with (first
      | (go_at_call 65; ((with_reducible refine (HFu.out _).mono ?_); rintro e w1 ⟨rfl, rfl⟩))
      | (go_at_call 16; ((with_reducible refine (HRg.out _).mono ?_); rintro e w2 ⟨A1, c1, A2, c2, rfl, hr1, hr2, hb⟩; have B2 := Lib.hid (B0.out.trans (hb.mono B0.out.size)); have R2 := Lib.hid (block_below R0.out hb); have HR1 := Lib.hid hr1; have HR2 := Lib.hid hr2; clear hr1 hr2 hb))
      | fail)
    have hs2 := lt_of_block R2.out
    have HO3 : Hid (OW w.heap.size (w2.heap.size + 1) w2.heap.size w (w2.alloc (.cells #[.int .i64 (n : Int), .slice none 0 0] 33)) n (.slice none 0 0) [] (w2.alloc (.cells #[.int .i64 (n : Int), .slice none 0 0] 33))) :=
      ⟨by omega, by omega, by simp, heap_alloc_new w2 _, World.ownsRow_nil _ _ _ _, fun _ _ _ => rfl, B2.out.alloc B2.out.size _⟩
    have HRa : Hid (∀ v E W, OW w.heap.size (w2.heap.size + 1) w2.heap.size w (w2.alloc (.cells #[.int .i64 (n : Int), .slice none 0 0] 33)) n v E W → RdZ W w2.heap.size A1 c1 (m1 G) ∧ RdZ W w2.heap.size A2 c2 (m2 G) ∧ W.heap[w.heap.size]? = some (.cells #[.int .i64 0, .slice none 0 0] 33 (0, 0))) := fun v E W h => by
      have hk : ∀ b o, b < w2.heap.size → W.cell? ⟨b, o, none⟩ = w2.cell? ⟨b, o, none⟩ := fun b o hb => World.cell?_of_block ((h.keep b (by omega) (by omega)).trans (Below.heap_alloc _ _ _ hb))
      exact ⟨HR1.out.keep hk, HR2.out.keep hk, (h.keep _ (by omega) (by omega)).trans ((Below.heap_alloc _ _ _ hs2).trans R2.out)⟩
    generalize (w2.alloc (.cells #[.int .i64 (n : Int), .slice none 0 0] 33)) = w3 at *
    generalize w2.heap.size = tb at *
    go_wp2
    go_loopw [8, 9] (fun I _ wr => ∃ (k : Nat) (v : Value), I = .int .i64 (k : Int) ∧ k ≤ G.length ∧ Hid (OW w.heap.size (tb + 1) tb w w3 n v ((G.take k).map (qrX D)) wr)) (fun I _ _ => G.length - (intOf I).toNat)
    case atStart => exact ⟨0, _, rfl, Nat.zero_le _, HO3.out⟩
    case round =>
      clear HO3
      obtain ⟨k, v, rfl, hk, HO⟩ := hrel
      have HOs := Lib.hid HO.out.size
      by_cases hkl : k < G.length
      · have hkli : (k : Int) < (G.length : Int) := by omega
        obtain ⟨ra1, ra2, _⟩ := HRa.out _ _ _ HO.out
        obtain ⟨b1, o1, rfl, _, y1⟩ := ra1.at_ (k := k) (by rw [HLl.out.1]; exact hkl)
        obtain ⟨b2, o2, rfl, _, y2⟩ := ra2.at_ (k := k) (by rw [HLl.out.2]; exact hkl)
        rw [HMg1.out k hkl] at y1
        rw [HMg2.out k hkl] at y2
        have p60 := HGb.out.v _ (List.getElem_mem hkl)
        have q60 := HGb.out.o2 _ (List.getElem_mem hkl)
        have p1 := HG1.out _ (List.getElem_mem hkl)
        have HN : Hid ((G.take (k + 1)).map (qrX D) = (G.take k).map (qrX D) ++ [qrX D G[k]]) := by
          show _ = _
          rw [List.take_add_one, List.getElem?_eq_getElem hkl, Option.toList_some, List.map_append]; rfl
        have htl : ((G.take k).map (qrX D)).length = k := by rw [List.length_map, List.length_take]; omega
        have HTl := Lib.hid htl
        have hqx : qrX D G[k] = if rkV D G[k].1 < 0 then ((G[k].2 / 2 : Nat) : Int) else 0 := rfl
        have HKk := Lib.hid (HKr.out G[k].1 p1 (by omega))
        clear ra1 ra2 htl
        generalize qrX D G[k] = x at *
        generalize G[k] = f at *
        obtain ⟨p, q⟩ := f
        simp only at y1 y2 p60 q60 p1 hqx HKk
        obtain ⟨z1, z2, zf⟩ := cells_two HO.out.box
        have HOw : Hid (wr.ownsRow (tb + 1) 3 1 v k (zs ((G.take k).map (qrX D)))) := by have := HO.out.own; rw [HTl.out] at this; exact this
        generalize (G.take k).map (qrX D) = L at *
        have hsz : tb + 1 ≤ wr.heap.size := HOs.out
        generalize rkV D p = kv at *
        have hq2 : q / 2 ≤ 30 := by omega
        have htd : Int.tdiv (q : Int) 2 = ((q / 2 : Nat) : Int) := by rw [Int.tdiv_eq_ediv_of_nonneg (by omega)]; omega
        have hdv : (q : Int) / 2 = ((q / 2 : Nat) : Int) := by omega
        generalize q / 2 = qh at *
        have hwq : IntKind.i64.wrap (qh : Int) = (qh : Int) := IntWalk.i64_in _ (by omega)
        by_cases hneg : kv < 0
        · rw [if_pos hneg] at hqx
          subst hqx
          go_wp2_with (first
            | (go_at_call 66; ((with_reducible refine (HKk.out _).mono ?_); rintro e w4 ⟨rfl, rfl⟩))
            | (at_builtin; (refine app_snap _ rfl _ _ rfl (tb + 1) _ _ _ rfl (HOw.out.alloc _) wr.heap.size (.int .i64 (qh : Int)) rfl (cell_one_new _ _ _) rfl (by omega) (by simp; omega) ?_); intro g5 cap5 w5 hown hg hat; obtain ⟨hbx, hxn⟩ := HO.out.push (by rw [HTl.out]; exact hown) hg; have HX := Lib.hid hxn; clear z1 z2 zf; obtain ⟨z1, z2, zf⟩ := cells_two hbx; clear hown hg hat hbx hxn)
            | fail)
          go_roundw
          case rel => exact ⟨k + 1, _, by go_num, by omega, by rw [HN.out]; exact HX.out⟩
          case measure => simp [intOf]; omega
        · rw [if_neg hneg] at hqx
          subst hqx
          go_wp2_with (first
            | (go_at_call 66; ((with_reducible refine (HKk.out _).mono ?_); rintro e w4 ⟨rfl, rfl⟩))
            | (at_builtin; (refine app_snap _ rfl _ _ rfl (tb + 1) _ _ _ rfl (HOw.out.alloc _) wr.heap.size (.int .i64 0) rfl (cell_one_new _ _ _) rfl (by omega) (by simp; omega) ?_); intro g5 cap5 w5 hown hg hat; obtain ⟨hbx, hxn⟩ := HO.out.push (by rw [HTl.out]; exact hown) hg; have HX := Lib.hid hxn; clear z1 z2 zf; obtain ⟨z1, z2, zf⟩ := cells_two hbx; clear hown hg hat hbx hxn)
            | fail)
          go_roundw
          case rel => exact ⟨k + 1, _, by go_num, by omega, by rw [HN.out]; exact HX.out⟩
          case measure => simp [intOf]; omega
      · obtain rfl : k = G.length := by omega
        have hk3 : ¬ (G.length : Int) < (G.length : Int) := by omega
        rw [HE.out] at HO
        obtain ⟨A0, l0, c0, rfl⟩ := ownsRow_slice HO.out.own
        obtain ⟨z1, z2, zf⟩ := cells_two HO.out.box
        have hr0 := (HRa.out _ _ _ HO.out).2.2
        obtain ⟨r0, r1, rf⟩ := cells_two hr0
        have R4 := Lib.hid (two_setC hr0 (.int .i64 (n : Int)) (.slice A0 l0 c0))
        obtain ⟨s0, s1, sf⟩ := cells_two R4.out
        have HOf := Lib.hid (own_base (show w.heap.size ≤ tb + 1 by omega) (ownsRow_setCell_below (ownsRow_setCell_below HO.out.own (a := ⟨w.heap.size, 0, none⟩) (by show w.heap.size < tb + 1; omega) (.int .i64 (n : Int))) (a := ⟨w.heap.size, 1, none⟩) (by show w.heap.size < tb + 1; omega) (.slice A0 l0 c0)))
        have HBf := Lib.hid ((HO.out.below.setCell (p := ⟨w.heap.size, 0, none⟩) (Nat.le_refl _) (.int .i64 (n : Int))).setCell (p := ⟨w.heap.size, 1, none⟩) (Nat.le_refl _) (.slice A0 l0 c0))
        clear hr0
        go_wp2
        refine bodyPost_ret (v := .tuple #[.agg #[.int .i64 (n : Int), .slice A0 l0 c0], .int .i64 0]) ?_ rfl ⟨_, rfl, HOf.out, HBf.out⟩
        simp [results, Try.results45, go_sem, s0, s1]
end Go.Proofs.Ytdbleaalpdemnaa
namespace Go.Proofs.Ytdbleaalpdemnaa
open Go.RowKit
set_option linter.unusedVariables false
set_option linter.unusedSimpArgs false

set_option maxHeartbeats 6400000 in
set_option maxRecDepth 1000000 in
theorem lqu_walk (D : Int) (w : World) : Calls Try.prog 12 #[.int .i64 D] w fun e w' => e = .returned (.bool true) ∧ Below w.heap.size w w' := by
  have HA := Lib.hid awake28_any
  by_cases h : -60 ≤ D ∧ D ≤ 60 ∧ D ≠ 0 ∧ fdB D = true
  · obtain ⟨d1, d2, h0, hf⟩ := h
    have hq := qu_of d1 d2 hf
    have N1 : 1 ≤ D.natAbs := by omega
    have N2 : ((D.natAbs : Nat) : Int) ≤ 60 := by omega
    have hmax : max D (-D) = ((D.natAbs : Nat) : Int) := by omega
    have hneg : IntKind.i64.wrap (-D) = -D := IntWalk.i64_in _ (by omega)
    have HQ := Lib.hid (fun W => dquad_any D W hf d1 d2)
    have HR := Lib.hid (fun W => rquad_ok D W d1 d2 h0 hf)
    have HCo := Lib.hid (fun (A : Option Addr) (c : Nat) (W : World) (hW : RdZ W W.heap.size A c (quE D D.natAbs)) => dcond_any D.natAbs D.natAbs (quE D D.natAbs) A c W N1 N2 hW hq.ck N1 N2 hq.pd hq.np)
    have HOr := Lib.hid (fun (A : Option Addr) (c : Nat) (W : World) (hW : RdZ W W.heap.size A c (quE D D.natAbs)) => dorder_any D.natAbs (quE D D.natAbs) A c W N1 N2 hW hq.ck)
    have HEv := Lib.hid (fun (A : Option Addr) (c : Nat) (W : World) (hW : RdZ W W.heap.size A c (quE D D.natAbs)) => deven_any D.natAbs (quE D D.natAbs) A c W N1 N2 hW hq.ck)
    have hev : decide (rouN ((tbV D.natAbs (quE D D.natAbs)).getD (-1 % ((D.natAbs : Nat) : Int)).toNat 0) (tbM (gensV D.natAbs)) = 0) = decide (0 < D) := by
      rw [decide_eq_decide]
      rw [show (-1 % ((D.natAbs : Nat) : Int)).toNat = D.natAbs - 1 by
        have : (-1 : Int) % ((D.natAbs : Nat) : Int) = ((D.natAbs : Nat) : Int) - 1 := by
          rw [show (-1 : Int) = (((D.natAbs : Nat) : Int) - 1) + ((D.natAbs : Nat) : Int) * (-1) by omega, Int.add_mul_emod_self_left, Int.emod_eq_of_lt (by omega) (by omega)]
        rw [this]; omega]
      exact hq.ev
    rw [hev] at HEv
    rw [hq.o] at HOr
    clear hev hq hf
    generalize quE D D.natAbs = Q at *
    generalize D.natAbs = n at *
    have hc : D = 1 ∨ (D ≠ 1 ∧ 0 < D) ∨ (D ≠ 1 ∧ ¬ 0 < D) := by omega
    rcases hc with h1 | ⟨h1, h2⟩ | ⟨h1, h2⟩
    · have e1 : (D == 1) = true := by rw [beq_iff_eq]; exact h1
      have h2 : 0 < D := by omega
      rw [decide_eq_true h2] at HEv
      rw [if_pos h1] at HOr
      clear h1
      go_enter Try.func12, Try.ntmps12
      go_upto_region 4 with (first
        | (go_at_call 13; ((with_reducible refine (HA.out _).mono ?_); rintro e v1 ⟨rfl, hb⟩; have B1 := Lib.hid hb; clear hb))
        | (go_at_call 44; ((with_reducible refine (HQ.out _).mono ?_); rintro e v2 ⟨v, rfl, ho, hb⟩; obtain ⟨A2, c2, rfl, hr⟩ := own_rdz ho; have P2 := Lib.hid hr; have B2 := Lib.hid (B1.out.trans (hb.mono B1.out.size)); clear hb ho hr))
        | fail)
      have X3 := Lib.hid (heap_alloc_new v2 (.cells #[.int .i64 (n : Int), .slice A2 Q.length c2] 33))
      have B3 : Hid (Below w.heap.size w (v2.alloc (.cells #[.int .i64 (n : Int), .slice A2 Q.length c2] 33))) := B2.out.alloc B2.out.size _
      have P3 := Lib.hid ((P2.out.below (below1 v2 (.cells #[.int .i64 (n : Int), .slice A2 Q.length c2] 33))).mono (below1 v2 (.cells #[.int .i64 (n : Int), .slice A2 Q.length c2] 33)).size)
      generalize v2.alloc (.cells #[.int .i64 (n : Int), .slice A2 Q.length c2] 33) = v3 at *
      generalize v2.heap.size = xb at *
      go_upto_region 5 with (first
        | (go_at_call 45; ((with_reducible refine (HR.out _).mono ?_); rintro e v4 ⟨v, rfl, ho, hb⟩; obtain ⟨A4, c4, rfl, hr⟩ := own_rdz ho; have P4 := Lib.hid hr; have X4 := Lib.hid (block_below X3.out hb); have P3b := Lib.hid ((P3.out.below hb).mono hb.size); have B4 := Lib.hid (B3.out.trans (hb.mono B3.out.size)); clear hb ho hr))
        | fail)
      have Y5 := Lib.hid (heap_alloc_new v4 (.cells #[.int .i64 (n : Int), .slice A4 Q.length c4] 33))
      have X5 := Lib.hid (block_alloc X4.out (.cells #[.int .i64 (n : Int), .slice A4 Q.length c4] 33))
      have B5 : Hid (Below w.heap.size w (v4.alloc (.cells #[.int .i64 (n : Int), .slice A4 Q.length c4] 33))) := B4.out.alloc B4.out.size _
      have P5 := Lib.hid ((P3b.out.below (below1 v4 (.cells #[.int .i64 (n : Int), .slice A4 Q.length c4] 33))).mono (below1 v4 (.cells #[.int .i64 (n : Int), .slice A4 Q.length c4] 33)).size)
      have S5 := Lib.hid ((P4.out.below (below1 v4 (.cells #[.int .i64 (n : Int), .slice A4 Q.length c4] 33))).mono (below1 v4 (.cells #[.int .i64 (n : Int), .slice A4 Q.length c4] 33)).size)
      generalize v4.alloc (.cells #[.int .i64 (n : Int), .slice A4 Q.length c4] 33) = v5 at *
      generalize v4.heap.size = yb at *
      obtain ⟨x0, x1, _⟩ := cells_two X5.out
      obtain ⟨y0, y1, _⟩ := cells_two Y5.out
      go_wp2_with (first
        | (go_at_call 30; ((with_reducible refine (csame_any (n : Int) Q _ _ _ _ _ _ _ P5.out S5.out (Nat.le_refl _) (Nat.le_refl _)).mono ?_); rintro e v6 ⟨rfl, hb⟩; have B6 := Lib.hid (B5.out.trans (hb.mono B5.out.size)); have X6 := Lib.hid (block_below X5.out hb); have P6 := Lib.hid ((P5.out.below hb).mono hb.size); clear x0 x1 y0 y1 hb; obtain ⟨x0, x1, _⟩ := cells_two X6.out))
        | (go_at_call 21; ((with_reducible refine (HCo.out _ _ _ P6.out).mono ?_); rintro e v7 ⟨rfl, hb⟩; have B7 := Lib.hid (B6.out.trans (hb.mono B6.out.size)); have X7 := Lib.hid (block_below X6.out hb); have P7 := Lib.hid ((P6.out.below hb).mono hb.size); clear x0 x1 hb; obtain ⟨x0, x1, _⟩ := cells_two X7.out))
        | (go_at_call 20; ((with_reducible refine (HOr.out _ _ _ P7.out).mono ?_); rintro e v8 ⟨rfl, hb⟩; have B8 := Lib.hid (B7.out.trans (hb.mono B7.out.size)); have X8 := Lib.hid (block_below X7.out hb); have P8 := Lib.hid ((P7.out.below hb).mono hb.size); clear x0 x1 hb; obtain ⟨x0, x1, _⟩ := cells_two X8.out))
        | (go_at_call 22; ((with_reducible refine (HEv.out _ _ _ P8.out).mono ?_); rintro e v9 ⟨rfl, hb⟩; have B9 := Lib.hid (B8.out.trans (hb.mono B8.out.size)); clear x0 x1 hb))
        | fail)
      go_ret
      exact ⟨by first | rfl | (simp; done) | (simp; omega), B9.out⟩
    · have e1 : (D == 1) = false := by rw [beq_eq_false_iff_ne]; exact h1
      rw [decide_eq_true h2] at HEv
      rw [if_neg h1] at HOr
      clear h1
      go_enter Try.func12, Try.ntmps12
      go_upto_region 4 with (first
        | (go_at_call 13; ((with_reducible refine (HA.out _).mono ?_); rintro e v1 ⟨rfl, hb⟩; have B1 := Lib.hid hb; clear hb))
        | (go_at_call 44; ((with_reducible refine (HQ.out _).mono ?_); rintro e v2 ⟨v, rfl, ho, hb⟩; obtain ⟨A2, c2, rfl, hr⟩ := own_rdz ho; have P2 := Lib.hid hr; have B2 := Lib.hid (B1.out.trans (hb.mono B1.out.size)); clear hb ho hr))
        | fail)
      have X3 := Lib.hid (heap_alloc_new v2 (.cells #[.int .i64 (n : Int), .slice A2 Q.length c2] 33))
      have B3 : Hid (Below w.heap.size w (v2.alloc (.cells #[.int .i64 (n : Int), .slice A2 Q.length c2] 33))) := B2.out.alloc B2.out.size _
      have P3 := Lib.hid ((P2.out.below (below1 v2 (.cells #[.int .i64 (n : Int), .slice A2 Q.length c2] 33))).mono (below1 v2 (.cells #[.int .i64 (n : Int), .slice A2 Q.length c2] 33)).size)
      generalize v2.alloc (.cells #[.int .i64 (n : Int), .slice A2 Q.length c2] 33) = v3 at *
      generalize v2.heap.size = xb at *
      go_upto_region 5 with (first
        | (go_at_call 45; ((with_reducible refine (HR.out _).mono ?_); rintro e v4 ⟨v, rfl, ho, hb⟩; obtain ⟨A4, c4, rfl, hr⟩ := own_rdz ho; have P4 := Lib.hid hr; have X4 := Lib.hid (block_below X3.out hb); have P3b := Lib.hid ((P3.out.below hb).mono hb.size); have B4 := Lib.hid (B3.out.trans (hb.mono B3.out.size)); clear hb ho hr))
        | fail)
      have Y5 := Lib.hid (heap_alloc_new v4 (.cells #[.int .i64 (n : Int), .slice A4 Q.length c4] 33))
      have X5 := Lib.hid (block_alloc X4.out (.cells #[.int .i64 (n : Int), .slice A4 Q.length c4] 33))
      have B5 : Hid (Below w.heap.size w (v4.alloc (.cells #[.int .i64 (n : Int), .slice A4 Q.length c4] 33))) := B4.out.alloc B4.out.size _
      have P5 := Lib.hid ((P3b.out.below (below1 v4 (.cells #[.int .i64 (n : Int), .slice A4 Q.length c4] 33))).mono (below1 v4 (.cells #[.int .i64 (n : Int), .slice A4 Q.length c4] 33)).size)
      have S5 := Lib.hid ((P4.out.below (below1 v4 (.cells #[.int .i64 (n : Int), .slice A4 Q.length c4] 33))).mono (below1 v4 (.cells #[.int .i64 (n : Int), .slice A4 Q.length c4] 33)).size)
      generalize v4.alloc (.cells #[.int .i64 (n : Int), .slice A4 Q.length c4] 33) = v5 at *
      generalize v4.heap.size = yb at *
      obtain ⟨x0, x1, _⟩ := cells_two X5.out
      obtain ⟨y0, y1, _⟩ := cells_two Y5.out
      go_wp2_with (first
        | (go_at_call 30; ((with_reducible refine (csame_any (n : Int) Q _ _ _ _ _ _ _ P5.out S5.out (Nat.le_refl _) (Nat.le_refl _)).mono ?_); rintro e v6 ⟨rfl, hb⟩; have B6 := Lib.hid (B5.out.trans (hb.mono B5.out.size)); have X6 := Lib.hid (block_below X5.out hb); have P6 := Lib.hid ((P5.out.below hb).mono hb.size); clear x0 x1 y0 y1 hb; obtain ⟨x0, x1, _⟩ := cells_two X6.out))
        | (go_at_call 21; ((with_reducible refine (HCo.out _ _ _ P6.out).mono ?_); rintro e v7 ⟨rfl, hb⟩; have B7 := Lib.hid (B6.out.trans (hb.mono B6.out.size)); have X7 := Lib.hid (block_below X6.out hb); have P7 := Lib.hid ((P6.out.below hb).mono hb.size); clear x0 x1 hb; obtain ⟨x0, x1, _⟩ := cells_two X7.out))
        | (go_at_call 20; ((with_reducible refine (HOr.out _ _ _ P7.out).mono ?_); rintro e v8 ⟨rfl, hb⟩; have B8 := Lib.hid (B7.out.trans (hb.mono B7.out.size)); have X8 := Lib.hid (block_below X7.out hb); have P8 := Lib.hid ((P7.out.below hb).mono hb.size); clear x0 x1 hb; obtain ⟨x0, x1, _⟩ := cells_two X8.out))
        | (go_at_call 22; ((with_reducible refine (HEv.out _ _ _ P8.out).mono ?_); rintro e v9 ⟨rfl, hb⟩; have B9 := Lib.hid (B8.out.trans (hb.mono B8.out.size)); clear x0 x1 hb))
        | fail)
      go_ret
      exact ⟨by first | rfl | (simp; done) | (simp; omega), B9.out⟩
    · have e1 : (D == 1) = false := by rw [beq_eq_false_iff_ne]; exact h1
      rw [decide_eq_false h2] at HEv
      rw [if_neg h1] at HOr
      clear h1
      go_enter Try.func12, Try.ntmps12
      go_upto_region 4 with (first
        | (go_at_call 13; ((with_reducible refine (HA.out _).mono ?_); rintro e v1 ⟨rfl, hb⟩; have B1 := Lib.hid hb; clear hb))
        | (go_at_call 44; ((with_reducible refine (HQ.out _).mono ?_); rintro e v2 ⟨v, rfl, ho, hb⟩; obtain ⟨A2, c2, rfl, hr⟩ := own_rdz ho; have P2 := Lib.hid hr; have B2 := Lib.hid (B1.out.trans (hb.mono B1.out.size)); clear hb ho hr))
        | fail)
      have X3 := Lib.hid (heap_alloc_new v2 (.cells #[.int .i64 (n : Int), .slice A2 Q.length c2] 33))
      have B3 : Hid (Below w.heap.size w (v2.alloc (.cells #[.int .i64 (n : Int), .slice A2 Q.length c2] 33))) := B2.out.alloc B2.out.size _
      have P3 := Lib.hid ((P2.out.below (below1 v2 (.cells #[.int .i64 (n : Int), .slice A2 Q.length c2] 33))).mono (below1 v2 (.cells #[.int .i64 (n : Int), .slice A2 Q.length c2] 33)).size)
      generalize v2.alloc (.cells #[.int .i64 (n : Int), .slice A2 Q.length c2] 33) = v3 at *
      generalize v2.heap.size = xb at *
      go_upto_region 5 with (first
        | (go_at_call 45; ((with_reducible refine (HR.out _).mono ?_); rintro e v4 ⟨v, rfl, ho, hb⟩; obtain ⟨A4, c4, rfl, hr⟩ := own_rdz ho; have P4 := Lib.hid hr; have X4 := Lib.hid (block_below X3.out hb); have P3b := Lib.hid ((P3.out.below hb).mono hb.size); have B4 := Lib.hid (B3.out.trans (hb.mono B3.out.size)); clear hb ho hr))
        | fail)
      have Y5 := Lib.hid (heap_alloc_new v4 (.cells #[.int .i64 (n : Int), .slice A4 Q.length c4] 33))
      have X5 := Lib.hid (block_alloc X4.out (.cells #[.int .i64 (n : Int), .slice A4 Q.length c4] 33))
      have B5 : Hid (Below w.heap.size w (v4.alloc (.cells #[.int .i64 (n : Int), .slice A4 Q.length c4] 33))) := B4.out.alloc B4.out.size _
      have P5 := Lib.hid ((P3b.out.below (below1 v4 (.cells #[.int .i64 (n : Int), .slice A4 Q.length c4] 33))).mono (below1 v4 (.cells #[.int .i64 (n : Int), .slice A4 Q.length c4] 33)).size)
      have S5 := Lib.hid ((P4.out.below (below1 v4 (.cells #[.int .i64 (n : Int), .slice A4 Q.length c4] 33))).mono (below1 v4 (.cells #[.int .i64 (n : Int), .slice A4 Q.length c4] 33)).size)
      generalize v4.alloc (.cells #[.int .i64 (n : Int), .slice A4 Q.length c4] 33) = v5 at *
      generalize v4.heap.size = yb at *
      obtain ⟨x0, x1, _⟩ := cells_two X5.out
      obtain ⟨y0, y1, _⟩ := cells_two Y5.out
      go_wp2_with (first
        | (go_at_call 30; ((with_reducible refine (csame_any (n : Int) Q _ _ _ _ _ _ _ P5.out S5.out (Nat.le_refl _) (Nat.le_refl _)).mono ?_); rintro e v6 ⟨rfl, hb⟩; have B6 := Lib.hid (B5.out.trans (hb.mono B5.out.size)); have X6 := Lib.hid (block_below X5.out hb); have P6 := Lib.hid ((P5.out.below hb).mono hb.size); clear x0 x1 y0 y1 hb; obtain ⟨x0, x1, _⟩ := cells_two X6.out))
        | (go_at_call 21; ((with_reducible refine (HCo.out _ _ _ P6.out).mono ?_); rintro e v7 ⟨rfl, hb⟩; have B7 := Lib.hid (B6.out.trans (hb.mono B6.out.size)); have X7 := Lib.hid (block_below X6.out hb); have P7 := Lib.hid ((P6.out.below hb).mono hb.size); clear x0 x1 hb; obtain ⟨x0, x1, _⟩ := cells_two X7.out))
        | (go_at_call 20; ((with_reducible refine (HOr.out _ _ _ P7.out).mono ?_); rintro e v8 ⟨rfl, hb⟩; have B8 := Lib.hid (B7.out.trans (hb.mono B7.out.size)); have X8 := Lib.hid (block_below X7.out hb); have P8 := Lib.hid ((P7.out.below hb).mono hb.size); clear x0 x1 hb; obtain ⟨x0, x1, _⟩ := cells_two X8.out))
        | (go_at_call 22; ((with_reducible refine (HEv.out _ _ _ P8.out).mono ?_); rintro e v9 ⟨rfl, hb⟩; have B9 := Lib.hid (B8.out.trans (hb.mono B8.out.size)); clear x0 x1 hb))
        | fail)
      go_ret
      exact ⟨by first | rfl | (simp; done) | (simp; omega), B9.out⟩
  · have HQ := Lib.hid (fun W => dquad_bad D W h)
    have HR := Lib.hid (fun W => rquad_bad D W h)
    have hK : ((if -60 ≤ D ∧ D ≤ 60 ∧ D ≠ 0 then (15 : Int) else 2) != 0) = true := by split <;> rfl
    have HS : Hid (∀ W : World, Calls Try.prog 30 #[.agg #[.int .i64 0, .slice none 0 0], .agg #[.int .i64 0, .slice none 0 0]] W fun e w' => e = .returned (.bool true) ∧ Below W.heap.size W w') := fun W => by
      have hz : RdZ W 0 none 0 [] := ⟨by simp, by unfold maxLen; omega, fun h0 => by simp at h0, fun _ h0 => by cases h0⟩
      exact csame_any 0 [] none none 0 0 0 0 W hz hz (Nat.zero_le _) (Nat.zero_le _)
    clear h
    generalize (if -60 ≤ D ∧ D ≤ 60 ∧ D ≠ 0 then (15 : Int) else 2) = K at *
    go_enter Try.func12, Try.ntmps12
    go_upto_region 4 with (first
      | (go_at_call 13; ((with_reducible refine (HA.out _).mono ?_); rintro e v1 ⟨rfl, hb⟩; have B1 := Lib.hid hb; clear hb))
      | (go_at_call 44; ((with_reducible refine (HQ.out _).mono ?_); rintro e v2 ⟨rfl, hb⟩; have B2 := Lib.hid (B1.out.trans (hb.mono B1.out.size)); clear hb))
      | fail)
    have X3 := Lib.hid (heap_alloc_new v2 (.cells #[.int .i64 0, .slice none 0 0] 33))
    have B3 : Hid (Below w.heap.size w (v2.alloc (.cells #[.int .i64 0, .slice none 0 0] 33))) := B2.out.alloc B2.out.size _
    generalize v2.alloc (.cells #[.int .i64 0, .slice none 0 0] 33) = v3 at *
    generalize v2.heap.size = xb at *
    go_upto_region 5 with (first
      | (go_at_call 45; ((with_reducible refine (HR.out _).mono ?_); rintro e v4 ⟨rfl, hb⟩; have X4 := Lib.hid (block_below X3.out hb); have B4 := Lib.hid (B3.out.trans (hb.mono B3.out.size)); clear hb))
      | fail)
    have Y5 := Lib.hid (heap_alloc_new v4 (.cells #[.int .i64 0, .slice none 0 0] 33))
    have X5 := Lib.hid (block_alloc X4.out (.cells #[.int .i64 0, .slice none 0 0] 33))
    have B5 : Hid (Below w.heap.size w (v4.alloc (.cells #[.int .i64 0, .slice none 0 0] 33))) := B4.out.alloc B4.out.size _
    generalize v4.alloc (.cells #[.int .i64 0, .slice none 0 0] 33) = v5 at *
    generalize v4.heap.size = yb at *
    obtain ⟨x0, x1, _⟩ := cells_two X5.out
    obtain ⟨y0, y1, _⟩ := cells_two Y5.out
    go_wp2_with (first
      | (go_at_call 30; ((with_reducible refine (HS.out _).mono ?_); rintro e v6 ⟨rfl, hb⟩; have B6 := Lib.hid (B5.out.trans (hb.mono B5.out.size)); clear x0 x1 y0 y1 hb))
      | fail)
    go_ret
    exact ⟨by first | rfl | simp, B6.out⟩
end Go.Proofs.Ytdbleaalpdemnaa
