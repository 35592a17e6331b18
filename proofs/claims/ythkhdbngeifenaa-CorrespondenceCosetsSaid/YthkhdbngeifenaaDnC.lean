/- The reference's check of a space: Mod, free, Fundamental, Check, Sturm. -/
import Derived.Test.YthkhdbngeifenaaDnB
namespace Go.Proofs.Ythkhdbngeifenaa
open Go.RowKit
set_option linter.unusedVariables false
set_option linter.unusedSimpArgs false

set_option maxHeartbeats 800000 in
theorem modD_any (a q : Int) (w : World) (a1 : -1000001 ≤ a) (a2 : a ≤ 1000001) (q1 : 1 ≤ q) (q2 : q ≤ 1000) : Calls Try.prog 29 #[.int .i64 a, .int .i64 q] w fun e w' => e = .returned (.int .i64 (a % q)) ∧ w' = w := by
  have hm := tmod_add a q (by omega)
  have hs := tmod_same a q (by omega)
  have b1 : (a.tmod q).natAbs < q.natAbs := by rw [Int.natAbs_tmod]; exact Nat.mod_lt _ (by omega)
  by_cases h : a.tmod q < 0
  · have e := hm h
    clear hm hs
    go_enter Try.func29, Try.ntmps29
    go_wp2
    go_ret
    exact ⟨rfl, rfl⟩
  · have e := hs (by omega)
    clear hm hs
    rw [← e]
    go_enter Try.func29, Try.ntmps29
    go_wp2
    go_ret
    exact ⟨rfl, rfl⟩
theorem frB_no {n t : Nat} (ht : t < 10) (h1 : (t + 2) * (t + 2) ≤ n) (h2 : n % ((t + 2) * (t + 2)) = 0) : frB n = false := by
  unfold frB
  rw [Bool.eq_false_iff]
  intro h
  have := List.all_eq_true.1 h t (List.mem_range.2 ht)
  simp only [Bool.or_eq_true, decide_eq_true_eq] at this
  omega
theorem frB_yes {n t : Nat} (hn : n < (t + 2) * (t + 2)) (h : ∀ j, j < t → n % ((j + 2) * (j + 2)) ≠ 0) : frB n = true := by
  unfold frB
  refine List.all_eq_true.2 fun j hj => ?_
  simp only [Bool.or_eq_true, decide_eq_true_eq]
  by_cases hjt : j < t
  · exact .inr (h j hjt)
  · left
    have : (t + 2) * (t + 2) ≤ (j + 2) * (j + 2) := Nat.mul_le_mul (by omega) (by omega)
    omega
set_option maxHeartbeats 1600000 in
theorem free_any (d : Int) (w : World) (d1 : -120 ≤ d) (d2 : d ≤ 120) :
    Calls Try.prog 37 #[.int .i64 d] w fun e w' => e = .returned (.bool (frB d.natAbs)) ∧ w = w' := by
  obtain ⟨n, hn⟩ : ∃ n, n = d.natAbs := ⟨_, rfl⟩
  rw [← hn]
  have hmax : max d (-d) = (n : Int) := by omega
  have hn2 : (n : Int) ≤ 120 := by omega
  have Hno := Lib.hid (fun (t : Nat) (ht : t < 10) (h1 : (t + 2) * (t + 2) ≤ n) (h2 : n % ((t + 2) * (t + 2)) = 0) => frB_no ht h1 h2)
  have Hyes := Lib.hid (fun (t : Nat) (h1 : n < (t + 2) * (t + 2)) (h2 : ∀ j, j < t → n % ((j + 2) * (j + 2)) ≠ 0) => frB_yes h1 h2)
  clear hn
  go_enter Try.func37, Try.ntmps37
  go_wp2
  go_loop [3] (fun P => ∃ t : Nat, P = .int .i64 ((t + 2 : Nat) : Int) ∧ t ≤ 10 ∧ Hid (∀ j, j < t → n % ((j + 2) * (j + 2)) ≠ 0)) (fun P => 20 - (intOf P).toNat)
  case atStart => exact ⟨0, rfl, by omega, fun j hj => absurd hj (by omega)⟩
  case round =>
    obtain ⟨t, rfl, ht, HJ⟩ := hrel
    have hno := Hno.out t
    have hyes := Hyes.out t
    obtain ⟨p, hp⟩ : ∃ p, p = t + 2 := ⟨_, rfl⟩
    have Hp := Lib.hid hp
    rw [← hp] at hno hyes ⊢
    have hp1 : 2 ≤ (p : Int) := by omega
    have hp2 : (p : Int) ≤ 12 := by omega
    have hsq : (p : Int) * (p : Int) = ((p * p : Nat) : Int) := (Int.natCast_mul p p).symm
    have hpp : p * p ≤ 144 := Nat.mul_le_mul (show p ≤ 12 by omega) (show p ≤ 12 by omega)
    have hpp0 : 4 ≤ p * p := Nat.mul_le_mul (show 2 ≤ p by omega) (show 2 ≤ p by omega)
    have hpb : t = 10 → 144 ≤ p * p := fun h => Nat.mul_le_mul (show 12 ≤ p by omega) (show 12 ≤ p by omega)
    clear hp
    obtain ⟨z, hz⟩ : ∃ z, z = p * p := ⟨_, rfl⟩
    have Hz := Lib.hid hz
    rw [← hz] at hno hyes hsq hpp hpp0 hpb
    clear hz
    have hz0 : ((z : Int) == 0) = false := by rw [beq_eq_false_iff_ne]; omega
    have hz1 : 1 ≤ (z : Int) := by omega
    have hmod : (n : Int) % (z : Int) = ((n % z : Nat) : Int) := (Int.natCast_emod n z).symm
    by_cases hle : z ≤ n
    · have hle2 : (z : Int) ≤ (n : Int) := by omega
      have ht10 : t < 10 := by rcases Nat.lt_or_ge t 10 with h | h; (exact h); have := hpb (by omega); omega
      clear hpb
      by_cases e : n % z = 0
      · have HE := Lib.hid (hno ht10 hle e)
        rw [e] at hmod
        clear hno hyes hle e
        go_wp2
        go_ret
        exact ⟨by rw [HE.out]; rfl, rfl⟩
      · have hne : (((n : Int) % (z : Int)) == 0) = false := by rw [hmod, beq_eq_false_iff_ne]; omega
        have He := Lib.hid e
        clear hno hyes hle e hmod
        go_wp2
        go_round
        case rel => exact ⟨t + 1, by have := Hp.out; go_num, by omega, fun j hj => by
          by_cases h : j < t
          · exact HJ.out j h
          · obtain rfl : j = t := by omega
            have h1 := He.out; have hq := Hp.out; have hz' := Hz.out; rw [hz', hq] at h1; exact h1⟩
        case measure => have := Hp.out; simp [intOf]; omega
    · have hle2 : ¬ (z : Int) ≤ (n : Int) := by omega
      have HE := Lib.hid (hyes (by omega) HJ.out)
      clear hno hyes hpb
      go_wp2
      go_ret
      exact ⟨by rw [HE.out]; rfl, rfl⟩
set_option maxHeartbeats 1600000 in
theorem rfun_any (d : Int) (w : World) (d1 : -120 ≤ d) (d2 : d ≤ 120) :
    Calls Try.prog 27 #[.int .i64 d] w fun e w' => e = .returned (.bool (fdR d)) ∧ w = w' := by
  by_cases h0 : d = 0
  · subst h0
    rw [show fdR 0 = false from rfl]
    go_enter Try.func27, Try.ntmps27
    go_wp2
    go_ret
    exact ⟨rfl, rfl⟩
  by_cases h1 : d = 1
  · subst h1
    rw [show fdR 1 = false from rfl]
    go_enter Try.func27, Try.ntmps27
    go_wp2
    go_ret
    exact ⟨rfl, rfl⟩
  have e0 : (d == 0) = false := by rw [beq_eq_false_iff_ne]; exact h0
  have e1 : (d == 1) = false := by rw [beq_eq_false_iff_ne]; exact h1
  have HM := Lib.hid (fun W => modD_any d 4 W (by omega) (by omega) (by omega) (by omega))
  have HF := Lib.hid (fun W => free_any d W d1 d2)
  by_cases h4 : d % 4 = 1
  · have ht0 : (d.tmod 4 == 0) = false := by rw [beq_eq_false_iff_ne]; intro h; have := Int.emod_eq_zero_of_dvd (Int.dvd_of_tmod_eq_zero h); omega
    have ht1 : (d % 4 == 0) = false := by rw [beq_eq_false_iff_ne]; omega
    rw [h4] at HM
    by_cases hf : frB d.natAbs = true
    · have HE : Hid (fdR d = true) := by show _ = _; unfold fdR; rw [decide_eq_true h0, decide_eq_true h1, decide_eq_true h4, hf]; rfl
      rw [HE.out]
      rw [hf] at HF
      clear h0 h1 h4 hf HE
      go_enter Try.func27, Try.ntmps27
      go_wp2_with (first
      | (go_at_call 29; first
         | ((with_reducible refine (HM.out _).mono ?_); rintro e w1 ⟨rfl, rfl⟩)
         | ((with_reducible refine (HQ.out _).mono ?_); rintro e w1 ⟨rfl, rfl⟩)
         | fail)
      | (go_at_call 37; first
         | ((with_reducible refine (HF.out _).mono ?_); rintro e w1 ⟨rfl, rfl⟩)
         | ((with_reducible refine (HG.out _).mono ?_); rintro e w1 ⟨rfl, rfl⟩)
         | fail)
      | fail)
      go_ret
      exact ⟨rfl, rfl⟩
    · have hf' : frB d.natAbs = false := by simpa using hf
      have HE : Hid (fdR d = false) := by show _ = _; unfold fdR; rw [hf', show decide (d % 4 = 0) = false from decide_eq_false (by omega)]; simp
      rw [HE.out]
      rw [hf'] at HF
      clear h0 h1 h4 hf hf' HE
      go_enter Try.func27, Try.ntmps27
      go_wp2_with (first
      | (go_at_call 29; first
         | ((with_reducible refine (HM.out _).mono ?_); rintro e w1 ⟨rfl, rfl⟩)
         | ((with_reducible refine (HQ.out _).mono ?_); rintro e w1 ⟨rfl, rfl⟩)
         | fail)
      | (go_at_call 37; first
         | ((with_reducible refine (HF.out _).mono ?_); rintro e w1 ⟨rfl, rfl⟩)
         | ((with_reducible refine (HG.out _).mono ?_); rintro e w1 ⟨rfl, rfl⟩)
         | fail)
      | fail)
      go_ret
      exact ⟨rfl, rfl⟩
  · have hm1 : (d % 4 == 1) = false := by rw [beq_eq_false_iff_ne]; exact h4
    by_cases h40 : d % 4 = 0
    · have ht0 : (d.tmod 4 == 0) = true := by rw [beq_iff_eq]; exact Int.tmod_eq_zero_of_dvd (Int.dvd_of_emod_eq_zero h40)
      have ht1 : (d % 4 == 0) = true := by rw [beq_iff_eq]; exact h40
      have hq : d.tdiv 4 = d / 4 := Int.tdiv_eq_ediv_of_dvd (Int.dvd_of_emod_eq_zero h40)
      have hq1 : -30 ≤ d / 4 ∧ d / 4 ≤ 30 := by omega
      have HQ := Lib.hid (fun W => modD_any (d / 4) 4 W (by omega) (by omega) (by omega) (by omega))
      have HG := Lib.hid (fun W => free_any (d / 4) W (by omega) (by omega))
      obtain ⟨hq2, hq3⟩ := hq1
      by_cases h2 : 2 ≤ d / 4 % 4
      · have h3 : d / 4 % 4 ≤ 3 := by omega
        have HE : Hid (fdR d = frB (d / 4).natAbs) := by show _ = _; unfold fdR; rw [decide_eq_true h0, decide_eq_true h1, decide_eq_false h4, decide_eq_true h40, decide_eq_true h2]; simp
        rw [HE.out]
        clear h0 h1 h4 h40 HE
        generalize frB (d / 4).natAbs = B at *
        generalize d / 4 % 4 = R at *
        obtain ⟨q, hqq⟩ : ∃ q, q = d / 4 := ⟨_, rfl⟩
        rw [← hqq] at hq hq2 hq3 HQ HG
        have hqd : d / 4 = q := hqq.symm
        clear hqq
        go_enter Try.func27, Try.ntmps27
        go_wp2_with (first
      | (go_at_call 29; first
         | ((with_reducible refine (HM.out _).mono ?_); rintro e w1 ⟨rfl, rfl⟩)
         | ((with_reducible refine (HQ.out _).mono ?_); rintro e w1 ⟨rfl, rfl⟩)
         | fail)
      | (go_at_call 37; first
         | ((with_reducible refine (HF.out _).mono ?_); rintro e w1 ⟨rfl, rfl⟩)
         | ((with_reducible refine (HG.out _).mono ?_); rintro e w1 ⟨rfl, rfl⟩)
         | fail)
      | fail)
        go_ret
        exact ⟨rfl, rfl⟩
      · have h3 : 0 ≤ d / 4 % 4 := by omega
        have HE : Hid (fdR d = false) := by show _ = _; unfold fdR; rw [decide_eq_false h4, decide_eq_false h2]; simp
        rw [HE.out]
        clear h0 h1 h4 h40 HE
        generalize d / 4 % 4 = R at *
        obtain ⟨q, hqq⟩ : ∃ q, q = d / 4 := ⟨_, rfl⟩
        rw [← hqq] at hq hq2 hq3 HQ HG
        have hqd : d / 4 = q := hqq.symm
        clear hqq
        go_enter Try.func27, Try.ntmps27
        go_wp2_with (first
      | (go_at_call 29; first
         | ((with_reducible refine (HM.out _).mono ?_); rintro e w1 ⟨rfl, rfl⟩)
         | ((with_reducible refine (HQ.out _).mono ?_); rintro e w1 ⟨rfl, rfl⟩)
         | fail)
      | (go_at_call 37; first
         | ((with_reducible refine (HF.out _).mono ?_); rintro e w1 ⟨rfl, rfl⟩)
         | ((with_reducible refine (HG.out _).mono ?_); rintro e w1 ⟨rfl, rfl⟩)
         | fail)
      | fail)
        go_ret
        exact ⟨rfl, rfl⟩
    · have ht0 : (d.tmod 4 == 0) = false := by rw [beq_eq_false_iff_ne]; intro h; have := Int.emod_eq_zero_of_dvd (Int.dvd_of_tmod_eq_zero h); omega
      have ht1 : (d % 4 == 0) = false := by rw [beq_eq_false_iff_ne]; exact h40
      have HE : Hid (fdR d = false) := by show _ = _; unfold fdR; rw [decide_eq_false h4, decide_eq_false h40]; simp
      rw [HE.out]
      clear h0 h1 h4 h40 HE
      go_enter Try.func27, Try.ntmps27
      go_wp2_with (first
      | (go_at_call 29; first
         | ((with_reducible refine (HM.out _).mono ?_); rintro e w1 ⟨rfl, rfl⟩)
         | ((with_reducible refine (HQ.out _).mono ?_); rintro e w1 ⟨rfl, rfl⟩)
         | fail)
      | (go_at_call 37; first
         | ((with_reducible refine (HF.out _).mono ?_); rintro e w1 ⟨rfl, rfl⟩)
         | ((with_reducible refine (HG.out _).mono ?_); rintro e w1 ⟨rfl, rfl⟩)
         | fail)
      | fail)
      go_ret
      exact ⟨rfl, rfl⟩
set_option maxHeartbeats 3200000 in
set_option maxRecDepth 1000000 in
theorem rcheck_any (N W D : Int) (w : World) : Calls Try.prog 15 #[.agg #[.int .i64 N, .int .i64 W, .int .i64 D]] w fun e w' => e = .returned (.int .i64 (ckV N W D)) ∧ Below w.heap.size w w' := by
  have T0 : Hid ((w.alloc (.cells #[.int .i64 N, .int .i64 W, .int .i64 D] 23)).heap[w.heap.size]? = some (.cells #[.int .i64 N, .int .i64 W, .int .i64 D] 23 (0, 0))) := heap_alloc_new w _
  have HB0 : Hid (Below w.heap.size w (w.alloc (.cells #[.int .i64 N, .int .i64 W, .int .i64 D] 23))) := below1 w _
  obtain ⟨⟨c0, c1, c2⟩, _⟩ := three_of_blockD T0.out
  by_cases h0 : N < 1
  · rw [show ckV N W D = 2 by unfold ckV; rw [if_pos (by omega)]]
    go_enter Try.func15, Try.ntmps15
    go_wp2
    go_ret
    exact ⟨rfl, HB0.out⟩
  by_cases h1 : 120 < N
  · rw [show ckV N W D = 2 by unfold ckV; rw [if_pos (by omega)]]
    have p0 : 1 ≤ N := by omega
    go_enter Try.func15, Try.ntmps15
    go_wp2
    go_ret
    exact ⟨rfl, HB0.out⟩
  by_cases h2 : W < 2
  · rw [show ckV N W D = 2 by unfold ckV; rw [if_pos (by omega)]]
    have p0 : 1 ≤ N := by omega
    have p1 : N ≤ 120 := by omega
    go_enter Try.func15, Try.ntmps15
    go_wp2
    go_ret
    exact ⟨rfl, HB0.out⟩
  by_cases h3 : 24 < W
  · rw [show ckV N W D = 2 by unfold ckV; rw [if_pos (by omega)]]
    have p0 : 1 ≤ N := by omega
    have p1 : N ≤ 120 := by omega
    have p2 : 2 ≤ W := by omega
    go_enter Try.func15, Try.ntmps15
    go_wp2
    go_ret
    exact ⟨rfl, HB0.out⟩
  by_cases h4 : D < -120
  · rw [show ckV N W D = 2 by unfold ckV; rw [if_pos (by omega)]]
    have p0 : 1 ≤ N := by omega
    have p1 : N ≤ 120 := by omega
    have p2 : 2 ≤ W := by omega
    have p3 : W ≤ 24 := by omega
    go_enter Try.func15, Try.ntmps15
    go_wp2
    go_ret
    exact ⟨rfl, HB0.out⟩
  by_cases h5 : 120 < D
  · rw [show ckV N W D = 2 by unfold ckV; rw [if_pos (by omega)]]
    have p0 : 1 ≤ N := by omega
    have p1 : N ≤ 120 := by omega
    have p2 : 2 ≤ W := by omega
    have p3 : W ≤ 24 := by omega
    have p4 : -120 ≤ D := by omega
    go_enter Try.func15, Try.ntmps15
    go_wp2
    go_ret
    exact ⟨rfl, HB0.out⟩
  have hr : ¬ (N < 1 ∨ 120 < N ∨ W < 2 ∨ 24 < W ∨ D < -120 ∨ 120 < D) := by omega
  have hn1 : 1 ≤ N := by omega
  have hn2 : N ≤ 120 := by omega
  have hw1 : 2 ≤ W := by omega
  have hw2' : W ≤ 24 := by omega
  have hd1 : -120 ≤ D := by omega
  have hd2 : D ≤ 120 := by omega
  clear h0 h1 h2 h3 h4 h5
  have HI := Lib.hid (fun V => rfun_any D V hd1 hd2)
  have hfd := fd_all D hd1 hd2
  by_cases g1 : fdB D = false
  · rw [show ckV N W D = 15 by unfold ckV; rw [if_neg hr, if_pos g1]]
    have hD1 : (D != 1) = true := by rw [bne_iff_ne]; rintro rfl; cases g1
    rw [g1] at hfd
    have hfr : fdR D = false := by cases h : fdR D; rfl; rw [h, Bool.or_true] at hfd; cases hfd
    rw [hfr] at HI
    clear hr g1 hfd hfr
    go_enter Try.func15, Try.ntmps15
    go_wp2_with (first
      | (go_at_call 27; ((with_reducible refine (HI.out _).mono ?_); rintro e w2 ⟨rfl, rfl⟩))
      | fail)
    go_ret
    exact ⟨rfl, HB0.out⟩
  have g1' : fdB D = true := by simpa using g1
  have hD : D ≠ 0 := by rintro rfl; exact g1 rfl
  have hf1 : (D != 1) = false ∨ ((D != 1) = true ∧ fdR D = true) := by
    by_cases h : D = 1
    · left; rw [bne_eq_false_iff_eq]; exact h
    · right; refine ⟨by rw [bne_iff_ne]; exact h, ?_⟩
      rw [g1', decide_eq_false h, Bool.false_or] at hfd; exact hfd.symm
  have hD0 : (D == 0) = false := by rw [beq_eq_false_iff_ne]; exact hD
  clear hfd
  by_cases g2 : N % D ≠ 0
  · rw [show ckV N W D = 14 by unfold ckV; rw [if_neg hr, if_neg g1, if_pos g2]]
    have e2 : (N % D != 0) = true := by rw [bne_iff_ne]; exact g2
    clear hr g1 g1' g2
    rcases hf1 with f1 | ⟨f1, f2⟩
    all_goals
      try rw [f2] at HI
      go_enter Try.func15, Try.ntmps15
      go_wp2_with (first
        | (go_at_call 27; ((with_reducible refine (HI.out _).mono ?_); rintro e w2 ⟨rfl, rfl⟩))
        | fail)
      go_ret
      exact ⟨rfl, HB0.out⟩
  have e2 : (N % D != 0) = false := by rw [bne_eq_false_iff_eq]; omega
  have hp : ((0 < D) ∧ decide (0 < D) = true) ∨ (¬ 0 < D ∧ decide (0 < D) = false) := by
    by_cases h : 0 < D
    · exact .inl ⟨h, decide_eq_true h⟩
    · exact .inr ⟨h, decide_eq_false h⟩
  have hw : (W % 2 = 0 ∧ (W % 2 == 0) = true) ∨ (¬ W % 2 = 0 ∧ (W % 2 == 0) = false) := by
    by_cases h : W % 2 = 0
    · exact .inl ⟨h, by rw [beq_iff_eq]; exact h⟩
    · exact .inr ⟨h, by rw [beq_eq_false_iff_ne]; exact h⟩
  by_cases g3 : ¬ (0 < D ↔ W % 2 = 0)
  · rw [show ckV N W D = 16 by unfold ckV; rw [if_neg hr, if_neg g1, if_neg g2, if_pos g3]]
    have hpw : (decide (0 < D) = true ∧ (W % 2 == 0) = false) ∨ (decide (0 < D) = false ∧ (W % 2 == 0) = true) := by
      rcases hp with ⟨p1, p2⟩ | ⟨p1, p2⟩ <;> rcases hw with ⟨q1, q2⟩ | ⟨q1, q2⟩
      · exact absurd ⟨fun _ => q1, fun _ => p1⟩ g3
      · exact .inl ⟨p2, q2⟩
      · exact .inr ⟨p2, q2⟩
      · exact absurd ⟨fun h => absurd h p1, fun h => absurd h q1⟩ g3
    clear hr g1 g1' g2 g3 hp hw
    rcases hf1 with f1 | ⟨f1, f2⟩ <;> rcases hpw with ⟨e3, e4⟩ | ⟨e3, e4⟩
    all_goals
      try rw [f2] at HI
      go_enter Try.func15, Try.ntmps15
      go_wp2_with (first
        | (go_at_call 27; ((with_reducible refine (HI.out _).mono ?_); rintro e w2 ⟨rfl, rfl⟩))
        | fail)
      go_ret
      exact ⟨rfl, HB0.out⟩
  have g4 : 0 < D ↔ W % 2 = 0 := by simpa using g3
  have hpw : (decide (0 < D) = true ∧ (W % 2 == 0) = true) ∨ (decide (0 < D) = false ∧ (W % 2 == 0) = false) := by
    rcases hp with ⟨p1, p2⟩ | ⟨p1, p2⟩ <;> rcases hw with ⟨q1, q2⟩ | ⟨q1, q2⟩
    · exact .inl ⟨p2, q2⟩
    · exact absurd (g4.1 p1) q1
    · exact absurd (g4.2 q1) p1
    · exact .inr ⟨p2, q2⟩
  obtain ⟨n, rfl⟩ : ∃ n : Nat, N = n := ⟨N.toNat, by omega⟩
  have HP := Lib.hid (fun V => rpsi_any n V (by omega) (by omega))
  have hps := psV_le (n := n) (by omega) (by omega)
  have hpb : (psV n : Int) * (W - 1) ≤ 30000 ∧ 0 ≤ (psV n : Int) * (W - 1) := by
    constructor
    · have := Int.mul_le_mul (show (psV n : Int) ≤ 1000 by omega) (show W - 1 ≤ 23 by omega) (by omega) (by omega)
      omega
    · exact Int.mul_nonneg (by omega) (by omega)
  obtain ⟨hpb1, hpb2⟩ := hpb
  have hcase : ckV (n : Int) W D = if 512 < (psV n : Int) * (W - 1) then 7 else 0 := by
    unfold ckV; rw [if_neg hr, if_neg g1, if_neg g2, if_neg g3]; rfl
  rw [hcase]
  clear hcase hr g1 g1' g2 g3 g4 hp hw
  generalize psV n = q at *
  obtain ⟨z, hz⟩ : ∃ z, z = (q : Int) * (W - 1) := ⟨_, rfl⟩
  rw [← hz] at hpb1 hpb2 ⊢
  have hz' : (q : Int) * (W - 1) = z := hz.symm
  have hwz : IntKind.i64.wrap z = z := IntWalk.i64_in _ (by omega)
  have hwm : IntKind.i64.wrap (W - 1) = W - 1 := IntWalk.i64_in _ (by omega)
  clear hz
  have T0d : Hid (((w.alloc (.cells #[.int .i64 n, .int .i64 W, .int .i64 D] 23)).drew).heap[w.heap.size]? = some (.cells #[.int .i64 n, .int .i64 W, .int .i64 D] 23 (0, 0))) := T0.out
  have HB0d := Lib.hid HB0.out.drew
  by_cases g5 : 512 < z
  all_goals
    first | rw [if_pos g5] | rw [if_neg g5]
    rcases hf1 with f1 | ⟨f1, f2⟩ <;> rcases hpw with ⟨e3, e4⟩ | ⟨e3, e4⟩
    all_goals
      try rw [f2] at HI
      go_enter Try.func15, Try.ntmps15
      go_upto_region 9 with (first
        | (go_at_call 27; ((with_reducible refine (HI.out _).mono ?_); rintro e w2 ⟨rfl, rfl⟩))
        | fail)
      go_region_held3 (fun w' => w'.cell? ⟨w.heap.size, 0, none⟩ = some (.int .i64 n) ∧ w'.cell? ⟨w.heap.size, 1, none⟩ = some (.int .i64 W))
        (with_reducible first | exact ⟨(three_of_blockD T3.out).1.1, (three_of_blockD T3.out).1.2.1⟩ | exact ⟨(three_of_blockD T0d.out).1.1, (three_of_blockD T0d.out).1.2.1⟩ | fail)
        (first
          | (go_at_call 28; ((with_reducible refine (HP.out _).mono ?_); rintro e w3 ⟨rfl, hb⟩; have HB3 := Lib.hid (bel0 HB0d.out hb); have T3 := Lib.hid (block_below T0d.out hb); clear hb))
          | fail)
      go_wp2
      go_ret
      exact ⟨rfl, HB3.out⟩
end Go.Proofs.Ythkhdbngeifenaa
