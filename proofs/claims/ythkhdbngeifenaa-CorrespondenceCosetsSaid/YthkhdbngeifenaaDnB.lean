/- Which spaces there are: isFundamental, both Checks, Sturm. -/
import Derived.Test.YthkhdbngeifenaaDnA
import Derived.Test.YthkhdbngeifenaaLawK
import Derived.Test.YthkhdbngeifenaaRfP
import Derived.Deep.DeepCutAuto
import Derived.Deep.CutBlock
import Derived.Deep.RegionHeld3
import Derived.IntWalk
namespace Go.Proofs.Ythkhdbngeifenaa
open Go.RowKit
set_option linter.unusedVariables false
set_option linter.unusedSimpArgs false

theorem three_of_blockD {w : World} {b : Nat} {x0 x1 x2 : Value} {t : TypeId} (h : w.heap[b]? = some (.cells #[x0, x1, x2] t (0, 0))) :
    (w.cell? ⟨b, 0, none⟩ = some x0 ∧ w.cell? ⟨b, 1, none⟩ = some x1 ∧ w.cell? ⟨b, 2, none⟩ = some x2) ∧ (∀ k, w.frozen? ⟨b, k, none⟩ = false) :=
  ⟨⟨by rw [cell_of_row w b 0 _ t _ h]; rfl, by rw [cell_of_row w b 1 _ t _ h]; rfl, by rw [cell_of_row w b 2 _ t _ h]; rfl⟩, fun j => frozen_of_row w b j _ t h⟩
theorem funV_of {d disc : Int} {n : Nat} (hd : d.natAbs = n) {f : Int} (h : (sgn d * (freeOf (facs 2 n) : Int) % 4 = 1 ∧ disc = sgn d * (freeOf (facs 2 n) : Int) ∧ f = (rootOf (facs 2 n) : Int)) ∨ (sgn d * (freeOf (facs 2 n) : Int) % 4 ≠ 1 ∧ disc = sgn d * (freeOf (facs 2 n) : Int) * 4 ∧ f = (rootOf (facs 2 n) : Int) / 2)) : disc = funV d := by
  subst hd
  unfold funV
  rcases h with ⟨h1, h2, _⟩ | ⟨h1, h2, _⟩
  · have : sgnD d * (freeOf (facs 2 d.natAbs) : Int) % 4 = 1 := h1
    rw [if_pos this]; exact h2
  · have : ¬ sgnD d * (freeOf (facs 2 d.natAbs) : Int) % 4 = 1 := h1
    rw [if_neg this]; exact h2
set_option maxHeartbeats 1600000 in
theorem fund_zero (w : World) : Calls Try.prog 32 #[.int .i64 0] w fun e w' => e = .returned (.tuple #[.int .i64 0, .int .i64 0, .int .i64 2]) ∧ Below w.heap.size w w' := by
  go_enter Try.func32, Try.ntmps32
  go_wp2
  exact bodyPost_ret (results_tmp3 rfl _ _ _) rfl ⟨rfl, Below.refl _ _⟩
set_option maxHeartbeats 1600000 in
theorem fund_disc (d : Int) (w : World) (d1 : -120 ≤ d) (d2 : d ≤ 120) (h : ¬ d % 4 < 2) : Calls Try.prog 32 #[.int .i64 d] w fun e w' => e = .returned (.tuple #[.int .i64 0, .int .i64 0, .int .i64 15]) ∧ Below w.heap.size w w' := by
  have HAB := Lib.hid (fun W => absolute_any d W (by unfold Mid; omega))
  have hd0 : (d == 0) = false := by rw [beq_eq_false_iff_ne]; rintro rfl; exact h (by decide)
  have hn : (d.natAbs : Int) ≤ 120 := by omega
  have h4 : 2 ≤ d % 4 := by omega
  have h5 : d % 4 ≤ 3 := by omega
  clear h
  go_enter Try.func32, Try.ntmps32
  go_wp2_with (first
    | (go_at_call 18; ((with_reducible refine (HAB.out _).mono ?_); rintro e w' ⟨rfl, rfl⟩))
    | (go_at_call 41; ((with_reducible refine (residue_any _ _ _ (by omega) (by omega)).mono ?_); rintro e w' ⟨rfl, rfl⟩))
    | fail)
  exact bodyPost_ret (results_tmp3 rfl _ _ _) rfl ⟨rfl, Below.refl _ _⟩
set_option maxHeartbeats 1600000 in
theorem isf_any (d : Int) (w : World) (d1 : -120 ≤ d) (d2 : d ≤ 120) : Calls Try.prog 21 #[.int .i64 d] w fun e w' => e = .returned (.bool (fdB d)) ∧ Below w.heap.size w w' := by
  by_cases h0 : d = 0
  · subst h0
    rw [show fdB 0 = false from rfl]
    have HF := Lib.hid fund_zero
    go_enter Try.func21, Try.ntmps21
    go_wp2_with (first
      | (go_at_call 32; ((with_reducible refine (HF.out _).mono ?_); rintro e w1 ⟨rfl, hb⟩; have HB := Lib.hid hb; clear hb))
      | fail)
    go_ret
    exact ⟨rfl, HB.out⟩
  · by_cases h4 : d % 4 < 2
    · have HF := Lib.hid (fun W => fund_F d (sgn d) d.natAbs (facs 2 d.natAbs) W rfl h0 rfl (by omega) rfl h4)
      by_cases he : funV d = d
      · have HE : Hid (fdB d = true) := by show _ = _; unfold fdB; rw [decide_eq_true h0, decide_eq_true h4, decide_eq_true he]; rfl
        rw [HE.out]
        clear h4 HE
        go_enter Try.func21, Try.ntmps21
        go_wp2_with (first
          | (go_at_call 32; ((with_reducible refine (HF.out _).mono ?_); rintro e w1 ⟨disc, f, rfl, hh, hb⟩; have HB := Lib.hid hb; have hdd := funV_of rfl hh.out; rw [he] at hdd; subst hdd; clear hb hh he HF))
          | fail)
        go_ret
        exact ⟨rfl, HB.out⟩
      · have HE : Hid (fdB d = false) := by show _ = _; unfold fdB; rw [decide_eq_true h0, decide_eq_true h4, decide_eq_false he]; rfl
        rw [HE.out]
        clear h4 HE
        go_enter Try.func21, Try.ntmps21
        go_wp2_with (first
          | (go_at_call 32; ((with_reducible refine (HF.out _).mono ?_); rintro e w1 ⟨disc, f, rfl, hh, hb⟩; have HB := Lib.hid hb; have hdd := funV_of rfl hh.out; have hne : (disc == d) = false := (by rw [beq_eq_false_iff_ne, hdd]; exact he); clear hb hh hdd he HF))
          | fail)
        go_ret
        exact ⟨rfl, HB.out⟩
    · have HE : Hid (fdB d = false) := by show _ = _; unfold fdB; rw [decide_eq_true h0, decide_eq_false h4]; rfl
      rw [HE.out]
      have HF := Lib.hid (fun W => fund_disc d W d1 d2 h4)
      clear h4 HE
      go_enter Try.func21, Try.ntmps21
      go_wp2_with (first
        | (go_at_call 32; ((with_reducible refine (HF.out _).mono ?_); rintro e w1 ⟨rfl, hb⟩; have HB := Lib.hid hb; clear hb))
        | fail)
      go_ret
      exact ⟨rfl, HB.out⟩
/-- The error of a space. -/
def ckV (N W D : Int) : Int :=
  if N < 1 ∨ 120 < N ∨ W < 2 ∨ 24 < W ∨ D < -120 ∨ 120 < D then 2 else if fdB D = false then 15 else if N % D ≠ 0 then 14 else if ¬ (0 < D ↔ W % 2 = 0) then 16 else if 512 < (psV N.toNat : Int) * (W - 1) then 7 else 0
theorem ckV_ok {N W D : Int} (h : ckV N W D = 0) : (1 ≤ N ∧ N ≤ 120) ∧ (2 ≤ W ∧ W ≤ 24) ∧ (-120 ≤ D ∧ D ≤ 120) ∧ fdB D = true ∧ N % D = 0 ∧ (0 < D ↔ W % 2 = 0) ∧ (psV N.toNat : Int) * (W - 1) ≤ 512 := by
  unfold ckV at h
  split at h
  · cases h
  split at h
  · cases h
  split at h
  · cases h
  split at h
  · cases h
  split at h
  · cases h
  refine ⟨by omega, by omega, by omega, by simpa using ‹¬ fdB D = false›, by omega, by simpa using ‹¬ ¬ _›, by omega⟩
set_option maxHeartbeats 3200000 in
set_option maxRecDepth 1000000 in
theorem check_any (N W D : Int) (w : World) : Calls Try.prog 12 #[.agg #[.int .i64 N, .int .i64 W, .int .i64 D]] w fun e w' => e = .returned (.int .i64 (ckV N W D)) ∧ Below w.heap.size w w' := by
  have T0 : Hid ((w.alloc (.cells #[.int .i64 N, .int .i64 W, .int .i64 D] 23)).heap[w.heap.size]? = some (.cells #[.int .i64 N, .int .i64 W, .int .i64 D] 23 (0, 0))) := heap_alloc_new w _
  have HB0 : Hid (Below w.heap.size w (w.alloc (.cells #[.int .i64 N, .int .i64 W, .int .i64 D] 23))) := below1 w _
  obtain ⟨⟨c0, c1, c2⟩, _⟩ := three_of_blockD T0.out
  have HW := Lib.hid (fun V => isw_any W V)
  by_cases h0 : N < 1
  · rw [show ckV N W D = 2 by unfold ckV; rw [if_pos (by omega)]]
    go_enter Try.func12, Try.ntmps12
    go_wp2_with (first | (go_at_call 20; ((with_reducible refine (HW.out _).mono ?_); rintro e w1 ⟨rfl, rfl⟩)) | fail)
    go_ret
    exact ⟨rfl, HB0.out⟩
  by_cases h1 : 120 < N
  · rw [show ckV N W D = 2 by unfold ckV; rw [if_pos (by omega)]]
    go_enter Try.func12, Try.ntmps12
    go_wp2_with (first | (go_at_call 20; ((with_reducible refine (HW.out _).mono ?_); rintro e w1 ⟨rfl, rfl⟩)) | fail)
    go_ret
    exact ⟨rfl, HB0.out⟩
  by_cases h2 : W < 2
  · rw [show ckV N W D = 2 by unfold ckV; rw [if_pos (by omega)]]
    rw [decide_eq_false (show ¬ (2 ≤ W ∧ W ≤ 24) by omega)] at HW
    go_enter Try.func12, Try.ntmps12
    go_wp2_with (first | (go_at_call 20; ((with_reducible refine (HW.out _).mono ?_); rintro e w1 ⟨rfl, rfl⟩)) | fail)
    go_ret
    exact ⟨rfl, HB0.out⟩
  by_cases h3 : 24 < W
  · rw [show ckV N W D = 2 by unfold ckV; rw [if_pos (by omega)]]
    rw [decide_eq_false (show ¬ (2 ≤ W ∧ W ≤ 24) by omega)] at HW
    go_enter Try.func12, Try.ntmps12
    go_wp2_with (first | (go_at_call 20; ((with_reducible refine (HW.out _).mono ?_); rintro e w1 ⟨rfl, rfl⟩)) | fail)
    go_ret
    exact ⟨rfl, HB0.out⟩
  by_cases h4 : D < -120
  · rw [show ckV N W D = 2 by unfold ckV; rw [if_pos (by omega)]]
    rw [decide_eq_true (show 2 ≤ W ∧ W ≤ 24 by omega)] at HW
    go_enter Try.func12, Try.ntmps12
    go_wp2_with (first | (go_at_call 20; ((with_reducible refine (HW.out _).mono ?_); rintro e w1 ⟨rfl, rfl⟩)) | fail)
    go_ret
    exact ⟨rfl, HB0.out⟩
  by_cases h5 : 120 < D
  · rw [show ckV N W D = 2 by unfold ckV; rw [if_pos (by omega)]]
    rw [decide_eq_true (show 2 ≤ W ∧ W ≤ 24 by omega)] at HW
    go_enter Try.func12, Try.ntmps12
    go_wp2_with (first | (go_at_call 20; ((with_reducible refine (HW.out _).mono ?_); rintro e w1 ⟨rfl, rfl⟩)) | fail)
    go_ret
    exact ⟨rfl, HB0.out⟩
  have hr : ¬ (N < 1 ∨ 120 < N ∨ W < 2 ∨ 24 < W ∨ D < -120 ∨ 120 < D) := by omega
  have hn1 : 1 ≤ N := by omega
  have hn2 : N ≤ 120 := by omega
  have hw1 : 2 ≤ W := by omega
  have hw2' : W ≤ 24 := by omega
  have hd1 : -120 ≤ D := by omega
  have hd2 : D ≤ 120 := by omega
  clear h0 h1 h2 h3 h4 h5
  rw [decide_eq_true (show 2 ≤ W ∧ W ≤ 24 by omega)] at HW
  have HI := Lib.hid (fun V => isf_any D V (by omega) (by omega))
  by_cases g1 : fdB D = false
  · rw [show ckV N W D = 15 by unfold ckV; rw [if_neg hr, if_pos g1]]
    rw [g1] at HI
    clear hr g1
    go_enter Try.func12, Try.ntmps12
    go_wp2_with (first
      | (go_at_call 20; ((with_reducible refine (HW.out _).mono ?_); rintro e w1 ⟨rfl, rfl⟩))
      | (go_at_call 21; ((with_reducible refine (HI.out _).mono ?_); rintro e w2 ⟨rfl, hb⟩; have HB2 := Lib.hid (bel0 HB0.out hb); clear hb))
      | fail)
    go_ret
    exact ⟨rfl, HB2.out⟩
  have g1' : fdB D = true := by simpa using g1
  rw [g1'] at HI
  have hD : D ≠ 0 := by rintro rfl; exact g1 rfl
  have hD0 : (D == 0) = false := by rw [beq_eq_false_iff_ne]; exact hD
  by_cases g2 : N % D ≠ 0
  · rw [show ckV N W D = 14 by unfold ckV; rw [if_neg hr, if_neg g1, if_pos g2]]
    have e2 : (N % D != 0) = true := by rw [bne_iff_ne]; exact g2
    clear hr g1 g1' g2
    go_enter Try.func12, Try.ntmps12
    go_wp2_with (first
      | (go_at_call 20; ((with_reducible refine (HW.out _).mono ?_); rintro e w1 ⟨rfl, rfl⟩))
      | (go_at_call 21; ((with_reducible refine (HI.out _).mono ?_); rintro e w2 ⟨rfl, hb⟩; have HB2 := Lib.hid (bel0 HB0.out hb); have T2 := Lib.hid (block_below T0.out hb); clear c0 c1 c2; obtain ⟨⟨c0, c1, c2⟩, _⟩ := three_of_blockD T2.out; clear hb))
      | fail)
    go_ret
    exact ⟨rfl, HB2.out⟩
  have e2 : (N % D != 0) = false := by rw [bne_eq_false_iff_eq]; omega
  by_cases g3 : ¬ (0 < D ↔ W % 2 = 0)
  · rw [show ckV N W D = 16 by unfold ckV; rw [if_neg hr, if_neg g1, if_neg g2, if_pos g3]]
    by_cases gp : 0 < D
    · have gw : ¬ W % 2 = 0 := fun h => g3 ⟨fun _ => h, fun _ => gp⟩
      have e3 : (W % 2 == 0) = false := by rw [beq_eq_false_iff_ne]; omega
      clear hr g1 g1' g2 g3 gw
      go_enter Try.func12, Try.ntmps12
      go_wp2_with (first
        | (go_at_call 20; ((with_reducible refine (HW.out _).mono ?_); rintro e w1 ⟨rfl, rfl⟩))
        | (go_at_call 21; ((with_reducible refine (HI.out _).mono ?_); rintro e w2 ⟨rfl, hb⟩; have HB2 := Lib.hid (bel0 HB0.out hb); have T2 := Lib.hid (block_below T0.out hb); clear c0 c1 c2; obtain ⟨⟨c0, c1, c2⟩, _⟩ := three_of_blockD T2.out; clear hb))
        | fail)
      go_ret
      exact ⟨rfl, HB2.out⟩
    · have gw : W % 2 = 0 := Classical.byContradiction fun h => g3 ⟨fun h1 => absurd h1 gp, fun h1 => absurd h1 h⟩
      have e3 : (W % 2 == 0) = true := by rw [beq_iff_eq]; omega
      have gpd : decide (0 < D) = false := decide_eq_false gp
      clear hr g1 g1' g2 g3 gw gp
      go_enter Try.func12, Try.ntmps12
      go_wp2_with (first
        | (go_at_call 20; ((with_reducible refine (HW.out _).mono ?_); rintro e w1 ⟨rfl, rfl⟩))
        | (go_at_call 21; ((with_reducible refine (HI.out _).mono ?_); rintro e w2 ⟨rfl, hb⟩; have HB2 := Lib.hid (bel0 HB0.out hb); have T2 := Lib.hid (block_below T0.out hb); clear c0 c1 c2; obtain ⟨⟨c0, c1, c2⟩, _⟩ := three_of_blockD T2.out; clear hb))
        | fail)
      go_ret
      exact ⟨rfl, HB2.out⟩
  obtain ⟨n, rfl⟩ : ∃ n : Nat, N = n := ⟨N.toNat, by omega⟩
  have HP := Lib.hid (fun V => psi_any n V (by omega) (by omega))
  have hps := psV_le (n := n) (by omega) (by omega)
  have hpb : (psV n : Int) * (W - 1) ≤ 30000 ∧ 0 ≤ (psV n : Int) * (W - 1) := by
    constructor
    · have := Int.mul_le_mul (show (psV n : Int) ≤ 1000 by omega) (show W - 1 ≤ 23 by omega) (by omega) (by omega)
      omega
    · exact Int.mul_nonneg (by omega) (by omega)
  obtain ⟨hpb1, hpb2⟩ := hpb
  have hw2 : (0 < D ∧ (W % 2 == 0) = true) ∨ (¬ 0 < D ∧ (W % 2 == 0) = false) := by
    have g4 : 0 < D ↔ W % 2 = 0 := by simpa using g3
    by_cases gp : 0 < D
    · left; exact ⟨gp, by have := g4.1 gp; rw [beq_iff_eq]; omega⟩
    · right; exact ⟨gp, by have : ¬ W % 2 = 0 := fun h => gp (g4.2 h); rw [beq_eq_false_iff_ne]; omega⟩
  have hcase : ckV (n : Int) W D = if 512 < (psV n : Int) * (W - 1) then 7 else 0 := by
    unfold ckV; rw [if_neg hr, if_neg g1, if_neg g2, if_neg g3]; rfl
  rw [hcase]
  clear hcase hr g1 g1' g2 g3
  generalize psV n = q at *
  obtain ⟨z, hz⟩ : ∃ z, z = (q : Int) * (W - 1) := ⟨_, rfl⟩
  rw [← hz] at hpb1 hpb2 ⊢
  have hz' : (q : Int) * (W - 1) = z := hz.symm
  clear hz
  by_cases g5 : 512 < z
  all_goals
    first | rw [if_pos g5] | rw [if_neg g5]
    rcases hw2 with ⟨gp, e3⟩ | ⟨gp, e3⟩
    all_goals
      go_enter Try.func12, Try.ntmps12
      go_wp2_with (first
        | (go_at_call 20; ((with_reducible refine (HW.out _).mono ?_); rintro e w1 ⟨rfl, rfl⟩))
        | (go_at_call 21; ((with_reducible refine (HI.out _).mono ?_); rintro e w2 ⟨rfl, hb⟩; have HB2 := Lib.hid (bel0 HB0.out hb); have T2 := Lib.hid (block_below T0.out hb); clear c0 c1 c2; obtain ⟨⟨c0, c1, c2⟩, _⟩ := three_of_blockD T2.out; clear hb))
        | (go_at_call 22; ((with_reducible refine (HP.out _).mono ?_); rintro e w3 ⟨rfl, hb⟩; have HB3 := Lib.hid (bel0 HB2.out hb); have T3 := Lib.hid (block_below T2.out hb); clear c0 c1 c2; obtain ⟨⟨c0, c1, c2⟩, _⟩ := three_of_blockD T3.out; clear hb))
        | fail)
      go_ret
      exact ⟨rfl, HB3.out⟩
end Go.Proofs.Ythkhdbngeifenaa
