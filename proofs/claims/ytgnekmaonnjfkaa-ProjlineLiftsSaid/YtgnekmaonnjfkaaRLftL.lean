/- The contracts of the reference's Raise and Lift. -/
import Derived.Test.YtgnekmaonnjfkaaRLstL
import Derived.Test.YtgnekmaonnjfkaaAwakeL
import Derived.StillTailTactics
namespace Go.Proofs.Ytgnekmaonnjfkaa
open Go.RowKit
set_option linter.unusedVariables false

set_option maxHeartbeats 800000 in
set_option maxRecDepth 1000000 in
theorem one_any (w : World) : Calls Try.prog 58 #[] w fun e w' => e = .returned (.agg #[.int .i64 1, .int .i64 0, .int .i64 0, .int .i64 1]) ∧ Below w.heap.size w w' := by
  go_enter Try.func58, Try.ntmps58
  go_wp2
  refine bodyPost_ret (v := .agg #[.int .i64 1, .int .i64 0, .int .i64 0, .int .i64 1]) ?_ rfl ⟨rfl, ?_⟩
  · simp [results, Try.results58, go_sem, *]
  · exact below1 _ _
set_option maxHeartbeats 3200000 in
set_option maxRecDepth 1000000 in
theorem raise_zero (n v : Int) (w : World) : Calls Try.prog 47 #[.int .i64 n, .int .i64 0, .int .i64 v] w fun e w' => e = .returned (.agg #[.int .i64 1, .int .i64 0, .int .i64 0, .int .i64 1]) ∧ Below w.heap.size w w' := by
  go_enter Try.func47, Try.ntmps47
  go_wp2_with (first
    | (go_at_call 58; ((with_reducible refine (one_any _).mono ?_); rintro e w2 ⟨rfl, hb⟩; have HF := Lib.hid ((Four.at w rfl 0 0 0 0).below hb); have HB := Lib.hid (bel1 (Below.refl _ _) hb); have hz := HF.out.lt; have hf := HF.out.free; obtain ⟨k1, k2, k3, k4⟩ := HF.out.cells; clear hb))
    | fail)
  obtain ⟨d1, d2, d3, d4⟩ := (HF.out.set 1 0 0 1).cells
  refine bodyPost_ret (v := .agg #[.int .i64 1, .int .i64 0, .int .i64 0, .int .i64 1]) ?_ rfl ⟨rfl, ?_⟩
  · simp [results, Try.results47, go_sem, d1, d2, d3, d4]
  · exact below_set4 HB.out (Nat.le_refl _) _ _ _ _
set_option maxHeartbeats 6400000 in
set_option maxRecDepth 1000000 in
theorem raise_yes (n : Int) (u v : Nat) (a : Int) (w : World) (u1 : 1 ≤ u) (u2 : u ≤ 120) (v2 : v ≤ 120) (ha : LeastInv v u a) :
    Calls Try.prog 47 #[.int .i64 n, .int .i64 (u : Int), .int .i64 (v : Int)] w fun e w' => e = .returned (.agg #[.int .i64 a, .int .i64 ((a * v - 1) / u), .int .i64 (u : Int), .int .i64 (v : Int)]) ∧ Below w.heap.size w w' := by
  have hg : Int.gcd (v : Int) (u : Int) = 1 := unit_of ha.dvd
  have HG := Lib.hid (fun W => rGcd_any (v : Int) (u : Int) W (by unfold Mid; omega) (by unfold Mid; omega))
  rw [hg] at HG
  obtain ⟨p0, p1, p2, p3, p4⟩ := lift_bd (show (1 : Int) ≤ u by omega) (by omega) (by omega) (by omega) ha
  have a0 := ha.lo
  have a1 := ha.hi
  have HNo : Hid (∀ t, 0 ≤ t → t < a → ¬ (t * v - 1).tmod u = 0) := fun t h0 h1 h2 => by
    have hd : (u : Int) ∣ v * t - 1 := by rw [Int.mul_comm]; exact Int.dvd_of_tmod_eq_zero h2
    have := (LeastInv.mk h0 (by omega) hd).unique ha hg
    omega
  have HYe : Hid ((a * v - 1).tmod u = 0) := Int.tmod_eq_zero_of_dvd (by rw [Int.mul_comm]; exact ha.dvd)
  have hu0 : ((u : Int) == 0) = false := by rw [beq_eq_false_iff_ne]; omega
  have hun : ¬ (u : Int) = 0 := by omega
  have T0 := Lib.hid (Four.at w rfl 0 0 0 0)
  have B0 := Lib.hid (below1 w (.cells #[.int .i64 0, .int .i64 0, .int .i64 0, .int .i64 0] 49))
  clear hg ha
  go_enter Try.func47, Try.ntmps47
  go_upto_region 4 with fail
  generalize w.alloc (.cells #[.int .i64 0, .int .i64 0, .int .i64 0, .int .i64 0] 49) = W0 at *
  refine wp_loop_rounds 1 ?_
  rw [rounds_succ]
  go_wp2_with (first
    | (go_at_call 15; ((with_reducible refine (HG.out _).mono ?_); rintro e w' ⟨rfl, q1, rfl⟩))
    | fail)
  have T1 := Lib.hid (T0.out.drewN q1)
  have B1 := Lib.hid (below_drewN B0.out q1)
  clear T0 B0 HG
  generalize W0.drewN q1 = W1 at *
  go_loopw [8] (fun I wr => ∃ t : Int, I = .int .i64 t ∧ 0 ≤ t ∧ t ≤ a ∧ Hid (wr = W1)) (fun I _ => (a - intOf I).toNat)
  case atStart => exact ⟨0, rfl, by omega, by omega, rfl⟩
  case round =>
    obtain ⟨t, rfl, t0, t1, HWr⟩ := hrel
    have hwr := HWr.out
    subst hwr
    clear HWr
    obtain ⟨r0, r1⟩ := prod_bd t0 (show t ≤ 120 by omega) (show (0 : Int) ≤ v by omega) (by omega)
    by_cases ht : t < a
    · have hn := HNo.out t t0 ht
      have hb1 : ((t * (v : Int) - 1).tmod u != 0) = true := by rw [bne_iff_ne]; exact hn
      clear HNo HYe hn
      go_wp2_with fail
      go_roundw
      case rel => exact ⟨t + 1, rfl, by omega, by omega, by show True; trivial⟩
      case measure => simp [intOf]; omega
    · obtain rfl : t = a := by omega
      have hy := HYe.out
      clear HNo HYe
      have hz := T1.out.lt
      have hf := T1.out.free
      obtain ⟨k1, k2, k3, k4⟩ := T1.out.cells
      go_wp2_with fail
      obtain ⟨d1, d2, d3, d4⟩ := (T1.out.set t ((t * v - 1) / u) u v).cells
      refine bodyPost_ret (v := .agg #[.int .i64 t, .int .i64 ((t * v - 1) / u), .int .i64 (u : Int), .int .i64 (v : Int)]) ?_ rfl ⟨rfl, ?_⟩
      · simp [results, Try.results47, go_sem, d1, d2, d3, d4]
      · exact below_set4 B1.out (Nat.le_refl _) _ _ _ _
set_option maxHeartbeats 6400000 in
set_option maxRecDepth 1000000 in
theorem rlift_any (n i : Int) (w : World) : Calls Try.prog 29 #[.int .i64 n, .int .i64 i] w (LftRet n i w) := by
  have HL := Lib.hid (fun W => rlist_any n W)
  cases hb : lvB n with
  | false =>
    have HE : Hid (LftE n i 0 0 0 0 2) := LftE.out (.inl hb)
    rw [ptI_no hb, lvE_no hb] at HL
    clear hb
    go_enter Try.func29, Try.ntmps29
    go_wp2_with (first
      | (go_at_call 17; ((with_reducible refine (HL.out _).mono ?_); rintro e w2 ⟨A, cc, rfl, hr, hb⟩; have HF := Lib.hid ((Four.at w rfl 0 0 0 0).below hb); have HB := Lib.hid (bel1 (Below.refl _ _) hb); have hzf := HF.out.lt; have hff := HF.out.free; obtain ⟨f1, f2, f3, f4⟩ := HF.out.cells; clear hb hr))
      | fail)
    obtain ⟨d1, d2, d3, d4⟩ := (HF.out.set 0 0 0 0).cells
    refine bodyPost_ret (v := .tuple #[.agg #[.int .i64 0, .int .i64 0, .int .i64 0, .int .i64 0], .int .i64 2]) ?_ rfl ⟨_, _, _, _, _, HE.out, rfl, ?_⟩
    · simp [results, Try.results29, go_sem, d1, d2, d3, d4]
    · exact below_set4 HB.out (Nat.le_refl _) _ _ _ _
  | true =>
    have HO : Hid (i < 0 ∨ ((ptI n).length : Int) ≤ i → LftE n i 0 0 0 0 2) := fun h => LftE.out (.inr h)
    have HZ : Hid (∀ v, 0 ≤ i → (ptI n)[i.toNat]? = some (0, v) → LftE n i 1 0 0 1 0) := fun v h1 h2 => LftE.zero v hb h1 h2
    have HY : Hid (∀ u v a, 0 ≤ i → (ptI n)[i.toNat]? = some (u, v) → 1 ≤ u → LeastInv v u a → LftE n i a ((a * v - 1) / u) u v 0) := fun u v a h1 h2 h3 h4 => LftE.yes u v a hb h1 h2 h3 h4
    obtain ⟨k, rfl, k1, k2⟩ := lv_nat hb
    rw [ptI_yes hb] at HO HZ HY HL
    rw [lvE_yes hb] at HL
    have hlen : (pts k).length ≤ 14400 := pts_len k2
    have HM : Hid (∀ u v, (u, v) ∈ pts k → u < k ∧ v < k ∧ (1 ≤ u → Int.gcd (v : Int) (u : Int) = 1)) := fun u v h => ⟨(mem_pts.1 h).1, (mem_pts.1 h).2.1, pts_cop k1 (by omega) h⟩
    clear hb
    generalize pts k = C at *
    go_enter Try.func29, Try.ntmps29
    go_upto_region 4 with (first
      | (go_at_call 17; ((with_reducible refine (HL.out _).mono ?_); rintro e w2 ⟨A, cc, rfl, hr, hb⟩; have HF := Lib.hid ((Four.at w rfl 0 0 0 0).below hb); have HR := Lib.hid hr; have HB := Lib.hid (bel1 (Below.refl _ _) hb); clear hb hr))
      | fail)
    have hzf := HF.out.lt
    have hff := HF.out.free
    obtain ⟨f1, f2, f3, f4⟩ := HF.out.cells
    by_cases hi0 : i < 0
    · have HE := Lib.hid (HO.out (.inl hi0))
      go_wp2_with fail
      obtain ⟨d1, d2, d3, d4⟩ := (HF.out.set 0 0 0 0).cells
      refine bodyPost_ret (v := .tuple #[.agg #[.int .i64 0, .int .i64 0, .int .i64 0, .int .i64 0], .int .i64 2]) ?_ rfl ⟨_, _, _, _, _, HE.out, rfl, ?_⟩
      · simp [results, Try.results29, go_sem, d1, d2, d3, d4]
      · exact below_set4 HB.out (Nat.le_refl _) _ _ _ _
    by_cases hi1 : (C.length : Int) ≤ i
    · have HE := Lib.hid (HO.out (.inr hi1))
      go_wp2_with fail
      obtain ⟨d1, d2, d3, d4⟩ := (HF.out.set 0 0 0 0).cells
      refine bodyPost_ret (v := .tuple #[.agg #[.int .i64 0, .int .i64 0, .int .i64 0, .int .i64 0], .int .i64 2]) ?_ rfl ⟨_, _, _, _, _, HE.out, rfl, ?_⟩
      · simp [results, Try.results29, go_sem, d1, d2, d3, d4]
      · exact below_set4 HB.out (Nat.le_refl _) _ _ _ _
    obtain ⟨j, rfl⟩ : ∃ j : Nat, i = j := ⟨i.toNat, by omega⟩
    have hj : j < C.length := by omega
    obtain ⟨b, o, rfl, hbw, x1, x2, _⟩ := HR.out.at_ hj
    have hget : C[j]? = some (C[j].1, C[j].2) := by rw [List.getElem?_eq_getElem hj]
    obtain ⟨m1, m2, m3⟩ := HM.out C[j].1 C[j].2 (List.getElem_mem hj)
    have HZ2 := Lib.hid (fun v h => HZ.out v (by omega) h)
    have HY2 := Lib.hid (fun u v a h => HY.out u v a (by omega) h)
    rw [show ((j : Int)).toNat = j from rfl] at HZ2 HY2
    rw [hget] at HZ2 HY2
    clear hget HZ HY HO HM HR
    generalize C[j].1 = u at *
    generalize C[j].2 = v at *
    have hji : (j : Int) < (C.length : Int) := by omega
    have hlt : ¬ (C.length : Int) ≤ (j : Int) := by omega
    obtain ⟨a, b', c', d', HE, HC⟩ : ∃ a b' c' d' : Int, Hid (LftE k j a b' c' d' 0) ∧ Hid (∀ W, Calls Try.prog 47 #[.int .i64 (k : Int), .int .i64 (u : Int), .int .i64 (v : Int)] W fun e w' => e = .returned (.agg #[.int .i64 a, .int .i64 b', .int .i64 c', .int .i64 d']) ∧ Below W.heap.size W w') := by
      rcases Nat.eq_zero_or_pos u with h0 | h0
      · subst h0
        exact ⟨1, 0, 0, 1, HZ2.out v rfl, fun W => raise_zero k v W⟩
      · obtain ⟨a, ha⟩ := least_some (show 1 ≤ (u : Int) by omega) (m3 h0)
        exact ⟨_, _, _, _, HY2.out u v a rfl h0 ha, fun W => raise_yes k u v a W h0 (by omega) (by omega) ha⟩
    clear HZ2 HY2 m3
    go_upto_region 6 with fail
    have HF2 := Lib.hid HF.out.drew
    have HB2 := Lib.hid HB.out.drew
    clear HF hff f1 f2 f3 f4 hzf HB
    go_still_tail 11, (by kernel_rfl)
    change wpList _ _ _ _ _ w2.drew
    clear x1 x2 hbw
    obtain ⟨W2, hW2⟩ : ∃ W2, W2 = w2.drew := ⟨_, rfl⟩
    rw [← hW2] at HF2 HB2 ⊢
    clear hW2
    go_wp2_with (first
      | (go_at_call 47; ((with_reducible refine (HC.out _).mono ?_); rintro e w3 ⟨rfl, hb⟩; have HF3 := Lib.hid (HF2.out.below hb); have HB3 := Lib.hid (bel0 HB2.out hb); have hzf := HF3.out.lt; have hff := HF3.out.free; obtain ⟨f1, f2, f3, f4⟩ := HF3.out.cells; clear hb))
      | fail)
    obtain ⟨d1, d2, d3, d4⟩ := (HF3.out.set a b' c' d').cells
    refine bodyPost_ret (v := .tuple #[.agg #[.int .i64 a, .int .i64 b', .int .i64 c', .int .i64 d'], .int .i64 0]) ?_ rfl ⟨_, _, _, _, _, HE.out, rfl, ?_⟩
    · simp [results, Try.results29, go_sem, d1, d2, d3, d4]
    · exact below_set4 HB3.out (Nat.le_refl _) _ _ _ _
end Go.Proofs.Ytgnekmaonnjfkaa
