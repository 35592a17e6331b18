/- ProjlineMoves, ProjlineStabilizes, ProjlineActs answer true for all arguments. -/
import Derived.Test.YtgnekmaonnjfkaaAwakeL
import Derived.Test.YtgnekmaonnjfkaaRActL
import Derived.Test.YtgnekmaonnjfkaaActN
namespace Go.Proofs.Ytgnekmaonnjfkaa
open Go.RowKit
set_option linter.unusedVariables false

set_option maxHeartbeats 3200000 in
set_option maxRecDepth 1000000 in
theorem moves_walk (n i a b c d : Int) (w : World) :
    Calls Try.prog 8 #[.int .i64 n, .int .i64 i, .agg #[.int .i64 a, .int .i64 b, .int .i64 c, .int .i64 d]] w fun e w' => e = .returned (.bool true) ∧ Below w.heap.size w w' := by
  go_enter Try.func8, Try.ntmps8
  go_upto_region 5 with (first
    | (go_at_call 12; ((with_reducible refine (awake_any _).mono ?_); rintro e w1 ⟨rfl, hb⟩; have HF1 := Lib.hid ((Four.at w rfl a b c d).below hb); have HB1 := Lib.hid (bel1 (Below.refl _ _) hb); obtain ⟨k1, k2, k3, k4⟩ := HF1.out.cells; clear hb))
    | (go_at_call 23; ((with_reducible refine (pact_any n i a b c d _).mono ?_); rintro e w2 ⟨j, k, hE, rfl, hb⟩; have HE := Lib.hid hE; have HF2 := Lib.hid (HF1.out.below hb); have HB2 := Lib.hid (bel0 HB1.out hb); clear hb hE k1 k2 k3 k4; obtain ⟨k1, k2, k3, k4⟩ := HF2.out.cells))
    | (go_at_call 24; ((with_reducible refine (ract_any n i a b c d _).mono ?_); rintro e w3 ⟨j', k', hE, rfl, hb⟩; obtain ⟨rfl, rfl⟩ := hE.unique HE.out; have HB3 := Lib.hid (bel0 HB2.out hb); clear hb hE))
    | fail)
  go_wp2
  go_ret
  exact ⟨rfl, HB3.out⟩
/-- Index of (0 : 1). -/
theorem idx01 {n i : Int} (h : IdxE n 0 1 i 0) : ∃ (k u v : Nat) (T : Int), n = k ∧ 1 ≤ k ∧ (k : Int) ≤ 120 ∧ lvB n = true ∧ NF n 0 1 u v T ∧ (u, v) ∈ pts k ∧ i = ix (pts k) u v := by
  generalize hz : (0 : Int) = z at h
  cases h with
  | err _ _ _ _ _ h => exact absurd hz.symm h
  | yes u v T hN hm =>
    obtain ⟨k, u', v', rfl, k1, k2, hlv, e1, e2, hm', _, hnf⟩ := hN.mem
    rw [ptI_yes hlv] at hm ⊢
    exact ⟨k, u, v, T, rfl, k1, k2, hlv, hnf, hm, rfl⟩
set_option maxHeartbeats 6400000 in
set_option maxRecDepth 1000000 in
theorem stabilizes_walk (n a b c d : Int) (w : World) :
    Calls Try.prog 10 #[.int .i64 n, .agg #[.int .i64 a, .int .i64 b, .int .i64 c, .int .i64 d]] w fun e w' => e = .returned (.bool true) ∧ Below w.heap.size w w' := by
  go_enter Try.func10, Try.ntmps10
  go_upto_region 4 with (first
    | (go_at_call 12; ((with_reducible refine (awake_any _).mono ?_); rintro e w1 ⟨rfl, hb⟩; have HF1 := Lib.hid ((Four.at w rfl a b c d).below hb); have HB1 := Lib.hid (bel1 (Below.refl _ _) hb); clear hb))
    | (go_at_call 19; ((with_reducible refine (pindex_any n 0 1 _).mono ?_); rintro e w2 ⟨i, k, hE, rfl, hb⟩; have HE := Lib.hid hE; have HF2 := Lib.hid (HF1.out.below hb); have HB2 := Lib.hid (bel0 HB1.out hb); clear hb hE; have hz2 := HF2.out.lt; obtain ⟨k1, k2, k3, k4⟩ := HF2.out.cells))
    | fail)
  by_cases hk : k = 0
  case neg =>
    clear HE
    go_wp2
    go_ret
    exact ⟨rfl, HB2.out⟩
  subst hk
  have HCk := Lib.hid (fun W => check_any a b c d W)
  rcases chk_cases a b c d with ⟨h, hc⟩ | ⟨h, hdet, hc⟩ | ⟨h, hdet, hc⟩
  all_goals rw [hc] at HCk
  case inl | inr.inr =>
    clear HE h hc
    (try clear hdet)
    go_wp2_with (first
      | (go_at_call 26; ((with_reducible refine (HCk.out _).mono ?_); rintro e w3 ⟨rfl, hb⟩; have HB3 := Lib.hid (bel0 HB2.out hb); clear hb))
      | fail)
    go_ret
    exact ⟨rfl, HB3.out⟩
  obtain ⟨m, u0, v0, T, rfl, m1, m2, hlv, h0, hmem, hi⟩ := idx01 HE.out
  have HA : Hid (∀ j e, ActE m i a b c d j e → e = 0 ∧ ((j = i ∧ c % m = 0) ∨ (¬ j = i ∧ ¬ c % m = 0))) := fun j e hA => by
    have hg : Int.gcd (a * d - b * c) m = 1 := by rw [hdet]; exact Int.gcd_one_left _
    rcases ActE.make hlv (by rw [hi]; omega) (by rw [hi, Int.toNat_natCast]; exact ix_some hmem) h hA with ⟨g, _⟩ | ⟨_, rfl, x, y, T', hN, hxy, rfl⟩
    · exact absurd hg g
    · refine ⟨rfl, ?_⟩
      have hs := stab hdet h0 hN
      by_cases hc : (m : Int) ∣ c
      · obtain ⟨e1, e2⟩ := hs.2 hc
        obtain rfl : x = u0 := by omega
        obtain rfl : y = v0 := by omega
        exact .inl ⟨hi.symm, Int.emod_eq_zero_of_dvd hc⟩
      · refine .inr ⟨fun e => hc ?_, fun e => hc (Int.dvd_of_emod_eq_zero e)⟩
        rw [hi] at e
        obtain ⟨rfl, rfl⟩ := ix_inj hxy hmem (by omega)
        exact hs.1 ⟨rfl, rfl⟩
  have hcb := (fitB_iff.1 h).2.2.1
  have HMo := Lib.hid (fun W => pmod_any c m W (by omega) (by omega) (by omega) m2)
  clear HE h hdet hc h0 hmem hi hlv
  go_upto_region 7 with (first
    | (go_at_call 26; ((with_reducible refine (HCk.out _).mono ?_); rintro e w3 ⟨rfl, hb⟩; have HF3 := Lib.hid (HF2.out.below hb); have HB3 := Lib.hid (bel0 HB2.out hb); clear hb k1 k2 k3 k4 hz2; have hz2 := HF3.out.lt; obtain ⟨k1, k2, k3, k4⟩ := HF3.out.cells))
    | (go_at_call 23; ((with_reducible refine (pact_any m i a b c d _).mono ?_); rintro e w4 ⟨j, k, hA, rfl, hb⟩; have HJ := Lib.hid (HA.out j k hA); have HF4 := Lib.hid (HF3.out.below hb); have HB4 := Lib.hid (bel0 HB3.out hb); clear hb hA k1 k2 k3 k4 hz2; have hz2 := HF4.out.lt; obtain ⟨k1, k2, k3, k4⟩ := HF4.out.cells))
    | fail)
  obtain ⟨rfl, hj⟩ := HJ.out
  clear HA HJ
  obtain ⟨cm, hcm⟩ : ∃ cm, cm = c % (m : Int) := ⟨_, rfl⟩
  rw [← hcm] at HMo hj
  clear hcm
  rcases hj with ⟨rfl, rfl⟩ | ⟨h1, h2⟩
  · go_wp2_with (first
      | (go_at_call 27; ((with_reducible refine (HMo.out _).mono ?_); rintro e w' ⟨rfl, rfl⟩))
      | fail)
    go_ret
    exact ⟨rfl, HB4.out⟩
  · have e1 : (j == i) = false := by rw [beq_eq_false_iff_ne]; exact h1
    have e2 : (cm == 0) = false := by rw [beq_eq_false_iff_ne]; exact h2
    clear h1 h2
    go_wp2_with (first
      | (go_at_call 27; ((with_reducible refine (HMo.out _).mono ?_); rintro e w' ⟨rfl, rfl⟩))
      | fail)
    go_ret
    exact ⟨rfl, HB4.out⟩
/-- Block g holds the pair of matrices. -/
def Eight (w : World) (g : Nat) (a b c d a' b' c' d' : Int) : Prop := w.heap[g]? = some (.cells #[.int .i64 a, .int .i64 b, .int .i64 c, .int .i64 d, .int .i64 a', .int .i64 b', .int .i64 c', .int .i64 d'] 53 (0, 0))
theorem Eight.cells {w : World} {g : Nat} {a b c d a' b' c' d' : Int} (h : Eight w g a b c d a' b' c' d') :
    (w.cell? ⟨g, 0, none⟩ = some (.int .i64 a) ∧ w.cell? ⟨g, 1, none⟩ = some (.int .i64 b) ∧ w.cell? ⟨g, 2, none⟩ = some (.int .i64 c) ∧ w.cell? ⟨g, 3, none⟩ = some (.int .i64 d)) ∧
    (w.cell? ⟨g, 4, none⟩ = some (.int .i64 a') ∧ w.cell? ⟨g, 5, none⟩ = some (.int .i64 b') ∧ w.cell? ⟨g, 6, none⟩ = some (.int .i64 c') ∧ w.cell? ⟨g, 7, none⟩ = some (.int .i64 d')) :=
  ⟨⟨by rw [cell_of_row w g 0 _ _ _ h]; rfl, by rw [cell_of_row w g 1 _ _ _ h]; rfl, by rw [cell_of_row w g 2 _ _ _ h]; rfl, by rw [cell_of_row w g 3 _ _ _ h]; rfl⟩,
   ⟨by rw [cell_of_row w g 4 _ _ _ h]; rfl, by rw [cell_of_row w g 5 _ _ _ h]; rfl, by rw [cell_of_row w g 6 _ _ _ h]; rfl, by rw [cell_of_row w g 7 _ _ _ h]; rfl⟩⟩
set_option maxHeartbeats 6400000 in
set_option maxRecDepth 1000000 in
theorem acts_walk (n i a b c d a' b' c' d' : Int) (w : World) :
    Calls Try.prog 9 #[.int .i64 n, .int .i64 i, .agg #[.int .i64 a, .int .i64 b, .int .i64 c, .int .i64 d, .int .i64 a', .int .i64 b', .int .i64 c', .int .i64 d']] w fun e w' => e = .returned (.bool true) ∧ Below w.heap.size w w' := by
  go_enter Try.func9, Try.ntmps9
  go_upto_region 4 with (first
    | (go_at_call 12; ((with_reducible refine (awake_any _).mono ?_); rintro e w1 ⟨rfl, hb⟩; have HF1 : Hid (Eight w1 w.heap.size a b c d a' b' c' d') := block_below (heap_alloc_new w _) hb; have HB1 := Lib.hid (bel1 (Below.refl _ _) hb); clear hb))
    | (go_at_call 23; ((with_reducible refine (pact_any n i 1 0 0 1 _).mono ?_); rintro e w2 ⟨j, k, hE, rfl, hb⟩; have HE := Lib.hid hE; have HF2 : Hid (Eight w2 w.heap.size a b c d a' b' c' d') := block_below HF1.out hb; have HB2 := Lib.hid (bel0 HB1.out hb); clear hb hE; have hz2 : w.heap.size < w2.heap.size := lt_of_block HF2.out; obtain ⟨⟨k1, k2, k3, k4⟩, k5, k6, k7, k8⟩ := HF2.out.cells))
    | fail)
  by_cases hk : k = 0
  case neg =>
    clear HE
    go_wp2
    go_ret
    exact ⟨rfl, HB2.out⟩
  subst hk
  obtain rfl := act_one HE.out
  obtain ⟨⟨p, q, r, s⟩, k2', hm⟩ : ∃ m k, mulE ⟨a, b, c, d⟩ ⟨a', b', c', d'⟩ = (m, k) := ⟨_, _, rfl⟩
  have HM := Lib.hid hm
  have HMu := Lib.hid (fun W => mul_any a b c d a' b' c' d' p q r s k2' W hm)
  clear HE hm
  go_upto_region 8 with (first
    | (go_at_call 23; ((with_reducible refine (pact_any n j a b c d _).mono ?_); rintro e w3 ⟨ja, ka, hE, rfl, hb⟩; have HEa := Lib.hid hE; have HF3 : Hid (Eight w3 w.heap.size a b c d a' b' c' d') := block_below HF2.out hb; have HB3 := Lib.hid (bel0 HB2.out hb); clear hb hE k1 k2 k3 k4 k5 k6 k7 k8; have hz3 : w.heap.size < w3.heap.size := lt_of_block HF3.out; obtain ⟨⟨k1, k2, k3, k4⟩, k5, k6, k7, k8⟩ := HF3.out.cells))
    | (go_at_call 25; ((with_reducible refine (HMu.out _).mono ?_); rintro e w4 ⟨rfl, hb⟩; have HF4 : Hid (Eight w4 w.heap.size a b c d a' b' c' d') := block_below HF3.out hb; have HB4 := Lib.hid (bel0 HB3.out hb); clear hb k1 k2 k3 k4 k5 k6 k7 k8; have hz4 : w.heap.size < w4.heap.size := lt_of_block HF4.out; obtain ⟨⟨k1, k2, k3, k4⟩, k5, k6, k7, k8⟩ := HF4.out.cells))
    | fail)
  have hsz4 := HB4.out.size
  by_cases hka : ka = 0
  case neg =>
    clear HEa HM
    go_wp2
    go_ret
    exact ⟨rfl, HB4.out.alloc hsz4 _⟩
  by_cases hkm : k2' = 0
  case neg =>
    clear HEa HM
    subst hka
    go_wp2
    go_ret
    exact ⟨rfl, HB4.out.alloc hsz4 _⟩
  subst hka hkm
  have HQ := Lib.hid (fun j1 e1 j2 e2 h1 h2 => acts_eq (j1 := j1) (e1 := e1) (j2 := j2) (e2 := e2) HEa.out HM.out h1 h2)
  clear HEa HM
  go_upto_region 14 with (first
    | (go_at_call 23; ((with_reducible refine (pact_any n ja a' b' c' d' _).mono ?_); rintro e w5 ⟨j1, e1, hE, rfl, hb⟩; have HE1 := Lib.hid hE; have HX5 : Hid (Four w5 w4.heap.size p q r s) := (Four.at w4 rfl p q r s).below hb; have HB5 := Lib.hid (bel1 HB4.out hb); clear hb hE k1 k2 k3 k4 k5 k6 k7 k8; have hz5 := HX5.out.lt; obtain ⟨k1, k2, k3, k4⟩ := HX5.out.cells))
    | (go_at_call 23; ((with_reducible refine (pact_any n j p q r s _).mono ?_); rintro e w6 ⟨j2, e2, hE, rfl, hb⟩; have HH := Lib.hid (HQ.out j1 e1 j2 e2 HE1.out hE); have HB6 := Lib.hid (bel0 HB5.out hb); clear hb hE))
    | fail)
  obtain ⟨rfl, rfl⟩ := HH.out
  go_wp2
  go_ret
  exact ⟨rfl, HB6.out⟩
end Go.Proofs.Ytgnekmaonnjfkaa
