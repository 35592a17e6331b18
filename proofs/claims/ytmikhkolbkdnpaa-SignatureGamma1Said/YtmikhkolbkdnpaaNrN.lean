/- The contract of the code's normal. The contract of the code's Normal. -/
import Derived.Test.YtmikhkolbkdnpaaTriL
import Derived.Deep.RegionHeld3
import Derived.Deep.QuietTactic
namespace Go.Proofs.Ytmikhkolbkdnpaa
open Go.RowKit
set_option linter.unusedVariables false

set_option maxHeartbeats 800000 in
set_option maxRecDepth 1000000 in
theorem presidue_any (a m : Int) (w : World) (a1 : -1152921504606846976 ≤ a) (a2 : a ≤ 1152921504606846976) (m1 : 1 ≤ m) (m2 : m ≤ 120) :
    Calls Try.prog 111 #[.int .i64 a, .int .i64 m] w fun e w' => e = .returned (.int .i64 (a % m)) ∧ w = w' := by
  have b1 : (a.tmod m).natAbs < m.natAbs := by rw [Int.natAbs_tmod]; exact Nat.mod_lt _ (by omega)
  have e1 : (a.tmod m + m) % m = a % m := by
    by_cases h : a.tmod m < 0
    · rw [tmod_add a m (by omega) h, Int.emod_emod_of_dvd _ (Int.dvd_refl _)]
    · rw [Int.add_emod_right, tmod_same a m (by omega) (by omega), Int.emod_emod_of_dvd _ (Int.dvd_refl _)]
  rw [← e1]
  clear e1
  go_enter Try.func111, Try.ntmps111
  go_wp2
  go_ret
  exact ⟨rfl, rfl⟩
theorem NF.of_mod {n c d U V T : Int} (h : NF n (c % n) (d % n) U V T) : NF n c d U V T := by
  have e : ∀ s x : Int, s * (x % n) % n = s * x % n := fun s x => by rw [Int.mul_comm, emod_mul', Int.mul_comm]
  refine ⟨h.u0, h.u1, h.v0, h.v1, h.t1, h.tn, h.cop, ?_, ?_, fun s hs => ?_⟩
  · have := Int.dvd_sub h.eu (dvd_mod c n); rwa [show T * U - c % n - (c - c % n) = T * U - c by omega] at this
  · have := Int.dvd_sub h.ev (dvd_mod d n); rwa [show T * V - d % n - (d - d % n) = T * V - d by omega] at this
  · have := h.least s hs; rwa [e, e] at this
theorem prod_bd {a b : Int} (a0 : 0 ≤ a) (a1 : a ≤ 120) (b0 : 0 ≤ b) (b1 : b ≤ 120) : 0 ≤ a * b ∧ a * b ≤ 14400 := by
  have := Int.mul_nonneg a0 b0
  have := Int.mul_le_mul a1 b1 b0 (by omega)
  omega
/-- What normal wants to know of g, the common divisor of x and n. -/
structure GF (n x g : Int) : Prop where
  g1 : 1 ≤ g
  g2 : g ≤ n
  m1 : 1 ≤ n / g
  m2 : n / g ≤ n
  x0 : 0 ≤ x / g
  x1 : x / g ≤ x
  mul : n = g * (n / g)
  cop : Int.gcd (x / g) (n / g) = 1
theorem gf_of {n x g : Int} (n1 : 1 ≤ n) (x0 : 0 ≤ x) (hg : g = Int.gcd x n) : GF n x g := by
  have h1 : 1 ≤ g := by
    have : 0 < Int.gcd x n := Int.gcd_pos_of_ne_zero_right _ (by omega)
    omega
  have hd : g ∣ n := by rw [hg]; exact Int.gcd_dvd_right _ _
  have hx : g ∣ x := by rw [hg]; exact Int.gcd_dvd_left _ _
  have e1 : n = g * (n / g) := (Int.mul_ediv_cancel' hd).symm
  have e2 : x = g * (x / g) := (Int.mul_ediv_cancel' hx).symm
  have k : g * Int.gcd (x / g) (n / g) = g := by
    have := Int.gcd_mul_left g (x / g) (n / g)
    rw [← e1, ← e2] at this
    have h2 : ((Int.gcd x n : Nat) : Int) = (g.natAbs * Int.gcd (x / g) (n / g) : Nat) := by rw [this]
    rw [← hg, Int.natCast_mul, show ((g.natAbs : Nat) : Int) = g by omega] at h2
    exact h2.symm
  refine ⟨h1, Int.le_of_dvd (by omega) hd, ?_, Int.ediv_le_self _ (by omega), Int.ediv_nonneg x0 (by omega), Int.ediv_le_self _ x0, e1, ?_⟩
  · rcases Int.lt_or_le (n / g) 1 with h | h
    · have := Int.mul_le_mul_of_nonneg_left (show n / g ≤ 0 by omega) (show 0 ≤ g by omega); omega
    · exact h
  · have : g * ((Int.gcd (x / g) (n / g) : Nat) - 1 : Int) = 0 := by rw [Int.mul_sub, k]; omega
    rcases Int.mul_eq_zero.1 this with h | h <;> omega
set_option maxHeartbeats 3200000 in
set_option maxRecDepth 1000000 in
theorem normal_any (n c d : Int) (w : World) (n1 : 1 ≤ n) (n2 : n ≤ 120) (c1 : -1152921504606846976 ≤ c) (c2 : c ≤ 1152921504606846976) (d1 : -1152921504606846976 ≤ d) (d2 : d ≤ 1152921504606846976) :
    Calls Try.prog 104 #[.int .i64 n, .int .i64 c, .int .i64 d] w fun e w' => ∃ U V T, NF n c d U V T ∧ e = .returned (.agg #[.int .i64 U, .int .i64 V, .int .i64 T]) ∧ Below w.heap.size w w' := by
  have HRc := Lib.hid (fun W => presidue_any c n W c1 c2 n1 n2)
  have HRd := Lib.hid (fun W => presidue_any d n W d1 d2 n1 n2)
  have HNF : Hid (∀ U V T, NF n (c % n) (d % n) U V T → NF n c d U V T) := fun U V T h => h.of_mod
  have x0 := Int.emod_nonneg c (show n ≠ 0 by omega)
  have x1 := Int.emod_lt_of_pos c (show 0 < n by omega)
  have y0 := Int.emod_nonneg d (show n ≠ 0 by omega)
  have y1 := Int.emod_lt_of_pos d (show 0 < n by omega)
  generalize c % n = x at *
  generalize d % n = y at *
  obtain ⟨g, hg⟩ : ∃ g : Int, g = Int.gcd x n := ⟨_, rfl⟩
  have HG := Lib.hid (fun W => gcd_any x n W (by unfold Mid; omega) (by unfold Mid; omega))
  rw [← hg] at HG
  have HF := Lib.hid (gf_of n1 x0 hg)
  have HGG := Lib.hid hg
  clear hg c1 c2 d1 d2
  obtain ⟨a, ha⟩ := least_some HF.out.m1 HF.out.cop
  have HI := Lib.hid (fun W => inverse_at (a := a) W HF.out.m1 (by have := HF.out.m2; omega) ha)
  have HA := Lib.hid ha
  clear ha
  have g1 := HF.out.g1
  have g2 := HF.out.g2
  have m1 := HF.out.m1
  have m2 := HF.out.m2
  have u0 := HF.out.x0
  have u1 := HF.out.x1
  have a0 := HA.out.lo
  have a1 := HA.out.hi
  have hgn : (g == 0) = false := by simp; omega
  have hgn2 : ¬ g = 0 := by omega
  have hgn3 : 0 < g := by omega
  have e1 : x.tdiv g = x / g := Int.tdiv_eq_ediv_of_nonneg x0
  have e2 : n.tdiv g = n / g := Int.tdiv_eq_ediv_of_nonneg (by omega)
  go_enter Try.func104, Try.ntmps104
  go_upto_region 3 with (first
    | (go_at_call 111; ((with_reducible refine (HRc.out _).mono ?_); rintro e w' ⟨rfl, rfl⟩))
    | (go_at_call 111; ((with_reducible refine (HRd.out _).mono ?_); rintro e w' ⟨rfl, rfl⟩))
    | (go_at_call 66; ((with_reducible refine (HG.out _).mono ?_); rintro e w' ⟨rfl, q1, rfl⟩))
    | fail)
  have HT0 : Hid (Tri ((w.alloc (.cells #[.int .i64 0, .int .i64 0, .int .i64 0] 125)).drewN q1) w.heap.size 0 0 0) := (Tri.at w rfl 0 0 0).drewN q1
  have HB0 : Hid (Below w.heap.size w ((w.alloc (.cells #[.int .i64 0, .int .i64 0, .int .i64 0] 125)).drewN q1)) := below_drewN (below1 _ _) q1
  generalize (w.alloc (.cells #[.int .i64 0, .int .i64 0, .int .i64 0] 125)).drewN q1 = W0 at *
  go_quiet ((go_at_call 112; exact Calls.quiet_of (HI.out _)))
  clear HI HRc HRd HG hgn hgn2 hgn3 e1 e2
  have HBst : Hid (Best n y (n / g) a a n 0) := Best.start a0 a1
  have HM : Hid (n = g * (n / g)) := HF.out.mul
  have HMd : Hid ((n / g) ∣ n) := ⟨g, by rw [Int.mul_comm]; exact HM.out⟩
  generalize hm : n / g = m at *
  go_wp2
  go_loopw [10, 11, 12] (fun v f t wr => ∃ (V F T : Int) (k : Nat), v = .int .i64 V ∧ f = .int .i64 F ∧ t = .int .i64 T ∧ 0 ≤ T ∧ T ≤ n + m ∧ 0 ≤ V ∧ V ≤ n ∧ 0 ≤ F ∧ F ≤ n ∧ Hid (m ∣ T - a) ∧ Hid (Best n y m a T V F) ∧ wr = W0.drewN k) (fun _ _ t _ => (n - intOf t).toNat)
  case atStart => exact ⟨n, 0, a, nq, rfl, rfl, rfl, a0, by omega, by omega, by omega, by omega, by omega, ⟨0, by omega⟩, HBst.out, rfl⟩
  case round =>
    obtain ⟨V, F, T, k, rfl, rfl, rfl, T0, T1, V0, V1, F0, F1, HTa, HBe, rfl⟩ := hrel
    by_cases hT : T < n
    · obtain ⟨p0, p1⟩ := prod_bd T0 (by omega) y0 (by omega : y ≤ 120)
      have HG2 := Lib.hid (fun W => gcd_any T n W (by unfold Mid; omega) (by unfold Mid; omega))
      have r0 := Int.emod_nonneg (T * y) (show n ≠ 0 by omega)
      have r1 := Int.emod_lt_of_pos (T * y) (show 0 < n by omega)
      have HTm : Hid (m ∣ T + m - a) := by have := Int.dvd_add HTa.out (Int.dvd_refl m); rwa [show T - a + m = T + m - a by omega] at this
      by_cases hv : T * y % n < V
      · by_cases hgt : Int.gcd T n = 1
        · have HNx := Lib.hid (Best.take HBe.out n1 T0 hT HTa.out hv hgt)
          rw [hgt] at HG2
          clear hgt
          go_wp2_with (first
            | (go_at_call 66; ((with_reducible refine (HG2.out _).mono ?_); rintro e w' ⟨rfl, q2, rfl⟩))
            | fail)
          go_roundw
          case rel => exact ⟨_, _, T + m, _, rfl, rfl, rfl, by omega, by omega, by omega, by omega, by omega, by omega, HTm.out, HNx.out, rfl⟩
          case measure => simp [intOf]; omega
        · have HNx := Lib.hid (Best.skip HBe.out n1 HTa.out (.inr hgt))
          obtain ⟨z, hz⟩ : ∃ z : Int, z = (Int.gcd T n : Nat) := ⟨_, rfl⟩
          have hz1 : ¬ z = 1 := by omega
          rw [← hz] at HG2
          clear hgt hz
          go_wp2_with (first
            | (go_at_call 66; ((with_reducible refine (HG2.out _).mono ?_); rintro e w' ⟨rfl, q2, rfl⟩))
            | fail)
          go_roundw
          case rel => exact ⟨V, F, T + m, _, rfl, rfl, rfl, by omega, by omega, by omega, by omega, by omega, by omega, HTm.out, HNx.out, rfl⟩
          case measure => simp [intOf]; omega
      · have HNx := Lib.hid (Best.skip HBe.out n1 HTa.out (.inl (by omega)))
        go_wp2_with fail
        go_roundw
        case rel => exact ⟨V, F, T + m, _, rfl, rfl, rfl, by omega, by omega, by omega, by omega, by omega, by omega, HTm.out, HNx.out, rfl⟩
        case measure => simp [intOf]; omega
    · obtain ⟨_, f0, f1, hfg, _, _⟩ := HBe.out.done n1 n2 m1 HMd.out a0 a1 (unit_of' HA.out.dvd) (by omega)
      obtain ⟨S, hS⟩ := least_some n1 hfg
      have HI2 := Lib.hid (fun W => inverse_at (a := S) W n1 (by omega) hS)
      have s0 := hS.lo
      have s1 := hS.hi
      have HDn : Hid (∀ S', 1 ≤ S' → S' ≤ n → n ∣ F * S' - 1 → NF n c d (g % n) V S') := fun S' h1 h2 h3 => HNF.out _ _ _ (nf_code n1 n2 x0 x1 HGG.out HM.out a0 a1 HA.out.dvd HBe.out (by omega) h1 h2 h3)
      have HT1 : Hid (Tri (W0.drewN k) w.heap.size 0 0 0) := HT0.out.drewN k
      have HB1 : Hid (Below w.heap.size w (W0.drewN k)) := below_drewN HB0.out k
      have hS1 : Hid (n ∣ F * S - 1) := hS.dvd
      clear hS hfg HBst HBe HTa HNF HT0 HB0 HGG HA
      generalize W0.drewN k = W1 at *
      by_cases hs : S < 1
      · have hS0 : S = 0 := by omega
        have hn : n = 1 := by
          have h := hS1.out
          rw [hS0, Int.mul_zero] at h
          have := Int.le_of_dvd (by decide) (Int.dvd_neg.2 h)
          omega
        have HR := Lib.hid (HDn.out 1 (by omega) (by omega) (by rw [hn]; exact Int.one_dvd _))
        clear hn hS0
        go_wp2_with (first
          | (go_at_call 112; ((with_reducible refine (HI2.out _).mono ?_); rintro e w' ⟨rfl, q2, rfl⟩; have HT2 := Lib.hid (HT1.out.drewN q2); have HB2 := Lib.hid (below_drewN HB1.out q2); have hzz := HT2.out.lt; have hfr := HT2.out.free; obtain ⟨k1, k2, k3⟩ := HT2.out.cells))
          | fail)
        obtain ⟨d1, d2, d3⟩ := (HT2.out.set (g % n) V 1).cells
        refine bodyPost_ret (v := .agg #[.int .i64 (g % n), .int .i64 V, .int .i64 1]) ?_ rfl ⟨_, _, _, HR.out, rfl, ?_⟩
        · simp [results, Try.results104, go_sem, *]
        · exact below_set3 HB2.out (Nat.le_refl _) _ _ _
      · have HR := Lib.hid (HDn.out S (by omega) (by omega) hS1.out)
        go_wp2_with (first
          | (go_at_call 112; ((with_reducible refine (HI2.out _).mono ?_); rintro e w' ⟨rfl, q2, rfl⟩; have HT2 := Lib.hid (HT1.out.drewN q2); have HB2 := Lib.hid (below_drewN HB1.out q2); have hzz := HT2.out.lt; have hfr := HT2.out.free; obtain ⟨k1, k2, k3⟩ := HT2.out.cells))
          | fail)
        obtain ⟨d1, d2, d3⟩ := (HT2.out.set (g % n) V S).cells
        refine bodyPost_ret (v := .agg #[.int .i64 (g % n), .int .i64 V, .int .i64 S]) ?_ rfl ⟨_, _, _, HR.out, rfl, ?_⟩
        · simp [results, Try.results104, go_sem, *]
        · exact below_set3 HB2.out (Nat.le_refl _) _ _ _
end Go.Proofs.Ytmikhkolbkdnpaa
namespace Go.Proofs.Ytmikhkolbkdnpaa
open Go.RowKit
set_option linter.unusedVariables false

def lvB (n : Int) : Bool := decide (1 ≤ n) && decide (n ≤ 120)
theorem lvB_yes {n : Int} (h : 1 ≤ n) (k : n ≤ 120) : lvB n = true := by unfold lvB; simp; omega
theorem lvB_no {n : Int} (h : n < 1 ∨ 120 < n) : lvB n = false := by
  unfold lvB
  rcases h with h | h
  · rw [decide_eq_false (by omega), Bool.false_and]
  · rw [decide_eq_false (show ¬ n ≤ 120 by omega), Bool.and_false]
theorem isLevel_any (n : Int) (w : World) : Calls Try.prog 102 #[.int .i64 n] w fun e w' => e = .returned (.bool (lvB n)) ∧ w = w' := by
  rcases Int.lt_or_le n 1 with h | h
  · rw [lvB_no (.inl h)]
    have hd : decide (1 ≤ n) = false := decide_eq_false (by omega)
    go_enter Try.func102, Try.ntmps102
    go_wp2
    go_ret
    exact ⟨rfl, rfl⟩
  · rcases Int.lt_or_le 120 n with k | k
    · rw [lvB_no (.inr k)]
      have hd : decide (1 ≤ n) = true := decide_eq_true (by omega)
      have hd2 : decide (n ≤ 120) = false := decide_eq_false (by omega)
      go_enter Try.func102, Try.ntmps102
      go_wp2
      go_ret
      exact ⟨rfl, rfl⟩
    · rw [lvB_yes h k]
      have hd : decide (1 ≤ n) = true := decide_eq_true (by omega)
      have hd2 : decide (n ≤ 120) = true := decide_eq_true (by omega)
      go_enter Try.func102, Try.ntmps102
      go_wp2
      go_ret
      exact ⟨rfl, rfl⟩
theorem pisEntry_any (n : Int) (w : World) : Calls Try.prog 103 #[.int .i64 n] w fun e w' => e = .returned (.bool (inE n)) ∧ w = w' := by
  rcases Int.lt_or_le n (-1073741824) with h | h
  · have hi := inE_no (n := n) (.inl h)
    rw [hi]
    have hd : decide (-1073741824 ≤ n) = false := decide_eq_false (by omega)
    go_enter Try.func103, Try.ntmps103
    go_wp2
    go_ret
    exact ⟨rfl, rfl⟩
  · rcases Int.lt_or_le 1073741824 n with k | k
    · have hi := inE_no (n := n) (.inr k)
      rw [hi]
      have hd : decide (-1073741824 ≤ n) = true := decide_eq_true (by omega)
      have hd2 : decide (n ≤ 1073741824) = false := decide_eq_false (by omega)
      go_enter Try.func103, Try.ntmps103
      go_wp2
      go_ret
      exact ⟨rfl, rfl⟩
    · have hi := inE_yes h k
      rw [hi]
      have hd : decide (-1073741824 ≤ n) = true := decide_eq_true (by omega)
      have hd2 : decide (n ≤ 1073741824) = true := decide_eq_true (by omega)
      go_enter Try.func103, Try.ntmps103
      go_wp2
      go_ret
      exact ⟨rfl, rfl⟩
/-- What Normal answers. -/
inductive NorE (n c d : Int) : Int → Int → Int → Int → Prop
  | out : (lvB n = false ∨ inE c = false ∨ inE d = false) → NorE n c d 0 0 0 2
  | cop : 1 ≤ n → n ≤ 120 → inE c = true → inE d = true → ¬ Int.gcd (Int.gcd c d) n = 1 → NorE n c d 0 0 0 9
  | yes (U V T : Int) : 1 ≤ n → n ≤ 120 → inE c = true → inE d = true → Int.gcd (Int.gcd c d) n = 1 → NF n c d U V T → NorE n c d U V T 0
theorem lvB_iff {n : Int} : lvB n = true ↔ 1 ≤ n ∧ n ≤ 120 := by unfold lvB; simp
theorem nor_cases (n c d : Int) : (lvB n = false ∨ inE c = false ∨ inE d = false) ∨ (1 ≤ n ∧ n ≤ 120 ∧ inE c = true ∧ inE d = true) := by
  cases h1 : lvB n
  · exact .inl (.inl rfl)
  · cases h2 : inE c
    · exact .inl (.inr (.inl rfl))
    · cases h3 : inE d
      · exact .inl (.inr (.inr rfl))
      · exact .inr ⟨(lvB_iff.1 h1).1, (lvB_iff.1 h1).2, rfl, rfl⟩
theorem NorE.unique {n c d U V T k U' V' T' k' : Int} (h : NorE n c d U V T k) (h' : NorE n c d U' V' T' k') : U = U' ∧ V = V' ∧ T = T' ∧ k = k' := by
  cases h with
  | out h =>
    cases h' with
    | out _ => exact ⟨rfl, rfl, rfl, rfl⟩
    | cop h1 h2 h3 h4 _ => rw [lvB_yes h1 h2, h3, h4] at h; simp at h
    | yes _ _ _ h1 h2 h3 h4 _ _ => rw [lvB_yes h1 h2, h3, h4] at h; simp at h
  | cop h1 h2 h3 h4 h5 =>
    cases h' with
    | out h => rw [lvB_yes h1 h2, h3, h4] at h; simp at h
    | cop _ _ _ _ _ => exact ⟨rfl, rfl, rfl, rfl⟩
    | yes _ _ _ _ _ _ _ h6 _ => exact absurd h6 h5
  | yes _ _ _ h1 h2 h3 h4 h5 hn =>
    cases h' with
    | out h => rw [lvB_yes h1 h2, h3, h4] at h; simp at h
    | cop _ _ _ _ h6 => exact absurd h5 h6
    | yes _ _ _ _ _ _ _ _ hn' =>
      obtain ⟨a, b, c⟩ := hn.unique (cop3_of h5) hn'
      exact ⟨a, b, c, rfl⟩
def NorRet (n c d : Int) (w : World) (e : Ending) (w' : World) : Prop :=
  ∃ U V T k, NorE n c d U V T k ∧ e = .returned (.tuple #[.agg #[.int .i64 U, .int .i64 V, .int .i64 T], .int .i64 k]) ∧ Below w.heap.size w w'
theorem mid_gcd {c d : Int} (hc : inE c = true) (hd : inE d = true) : Mid ((Int.gcd c d : Nat) : Int) := by
  have := gcd_mid (a := c) (b := d) (by have := inE_iff.1 hc; unfold Mid; omega) (by have := inE_iff.1 hd; unfold Mid; omega)
  unfold Mid; omega
set_option maxHeartbeats 3200000 in
set_option maxRecDepth 1000000 in
theorem pnormal_any (n c d : Int) (w : World) : Calls Try.prog 90 #[.int .i64 n, .int .i64 c, .int .i64 d] w (NorRet n c d w) := by
  have HL := Lib.hid (fun W => isLevel_any n W)
  have HC := Lib.hid (fun W => pisEntry_any c W)
  have HD := Lib.hid (fun W => pisEntry_any d W)
  rcases nor_cases n c d with h | ⟨n1, n2, hc, hd⟩
  · have HE : Hid (NorE n c d 0 0 0 2) := NorE.out h
    rcases h with h | h | h
    · rw [h] at HL
      clear h
      go_enter Try.func90, Try.ntmps90
      go_wp2_with (first
        | (go_at_call 102; ((with_reducible refine (HL.out _).mono ?_); rintro e w' ⟨rfl, rfl⟩))
        | fail)
      refine bodyPost_ret (v := .tuple #[.agg #[.int .i64 0, .int .i64 0, .int .i64 0], .int .i64 2]) ?_ rfl ⟨_, _, _, _, HE.out, rfl, ?_⟩
      · simp [results, Try.results90, go_sem, *]
      · exact below1 _ _
    all_goals
      generalize lvB n = bl at *
      generalize hic : inE c = bc at *
      generalize hid : inE d = bd at *
      subst h
      clear hic hid
      cases bl <;> (try cases bc) <;> (try cases bd)
    all_goals
      go_enter Try.func90, Try.ntmps90
      go_wp2_with (first
        | (go_at_call 102; ((with_reducible refine (HL.out _).mono ?_); rintro e w' ⟨rfl, rfl⟩))
        | (go_at_call 103; ((with_reducible refine (HC.out _).mono ?_); rintro e w' ⟨rfl, rfl⟩))
        | (go_at_call 103; ((with_reducible refine (HD.out _).mono ?_); rintro e w' ⟨rfl, rfl⟩))
        | fail)
      refine bodyPost_ret (v := .tuple #[.agg #[.int .i64 0, .int .i64 0, .int .i64 0], .int .i64 2]) ?_ rfl ⟨_, _, _, _, HE.out, rfl, ?_⟩
      · simp [results, Try.results90, go_sem, *]
      · exact below1 _ _
  · rw [lvB_yes n1 n2] at HL
    rw [hc] at HC
    rw [hd] at HD
    have bc := inE_iff.1 hc
    have bd := inE_iff.1 hd
    have HG := Lib.hid (fun W => gcd_any c d W (by unfold Mid; omega) (by unfold Mid; omega))
    have HG2 := Lib.hid (fun W => gcd_any (Int.gcd c d) n W (mid_gcd hc hd) (by unfold Mid; omega))
    have HN := Lib.hid (fun W => normal_any n c d W n1 n2 (by omega) (by omega) (by omega) (by omega))
    obtain ⟨g, hg⟩ : ∃ g : Nat, g = Int.gcd (Int.gcd c d) n := ⟨_, rfl⟩
    rw [← hg] at HG2
    by_cases hg1 : g = 1
    · have HY : Hid (∀ U V T, NF n c d U V T → NorE n c d U V T 0) := fun U V T h => .yes U V T n1 n2 hc hd (by rw [← hg]; exact hg1) h
      rw [hg1] at HG2
      clear hg hg1 hc hd bc bd
      generalize Int.gcd c d = g0 at *
      go_enter Try.func90, Try.ntmps90
      go_wp2_with (first
        | (go_at_call 102; ((with_reducible refine (HL.out _).mono ?_); rintro e w' ⟨rfl, rfl⟩))
        | (go_at_call 103; ((with_reducible refine (HC.out _).mono ?_); rintro e w' ⟨rfl, rfl⟩))
        | (go_at_call 103; ((with_reducible refine (HD.out _).mono ?_); rintro e w' ⟨rfl, rfl⟩))
        | (go_at_call 66; ((with_reducible refine (HG.out _).mono ?_); rintro e w' ⟨rfl, q1, rfl⟩))
        | (go_at_call 66; ((with_reducible refine (HG2.out _).mono ?_); rintro e w' ⟨rfl, q2, rfl⟩))
        | (go_at_call 104; ((with_reducible refine (HN.out _).mono ?_); rintro e w3 ⟨U, V, T, hN, rfl, hb⟩; have HE := Lib.hid (HY.out U V T hN); have HT := Lib.hid (Tri.below ((Tri.at w rfl 0 0 0).drewN _) hb); have HB := Lib.hid (bel0 (below_drewN (below1 w _) _) hb); have hz := HT.out.lt; have hf := HT.out.free; obtain ⟨k1, k2, k3⟩ := HT.out.cells; clear hN hb))
        | fail)
      obtain ⟨d1, d2, d3⟩ := (HT.out.set U V T).cells
      refine bodyPost_ret (v := .tuple #[.agg #[.int .i64 U, .int .i64 V, .int .i64 T], .int .i64 0]) ?_ rfl ⟨_, _, _, _, HE.out, rfl, ?_⟩
      · simp [results, Try.results90, go_sem, *]
      · exact below_set3 HB.out (Nat.le_refl _) _ _ _
    · have HE : Hid (NorE n c d 0 0 0 9) := .cop n1 n2 hc hd (by rw [← hg]; exact hg1)
      have hg2 : ((g : Int) != 1) = true := by rw [bne_iff_ne]; omega
      clear hg hg1 hc hd bc bd
      generalize Int.gcd c d = g0 at *
      go_enter Try.func90, Try.ntmps90
      go_wp2_with (first
        | (go_at_call 102; ((with_reducible refine (HL.out _).mono ?_); rintro e w' ⟨rfl, rfl⟩))
        | (go_at_call 103; ((with_reducible refine (HC.out _).mono ?_); rintro e w' ⟨rfl, rfl⟩))
        | (go_at_call 103; ((with_reducible refine (HD.out _).mono ?_); rintro e w' ⟨rfl, rfl⟩))
        | (go_at_call 66; ((with_reducible refine (HG.out _).mono ?_); rintro e w' ⟨rfl, q1, rfl⟩))
        | (go_at_call 66; ((with_reducible refine (HG2.out _).mono ?_); rintro e w' ⟨rfl, q2, rfl⟩))
        | fail)
      refine bodyPost_ret (v := .tuple #[.agg #[.int .i64 0, .int .i64 0, .int .i64 0], .int .i64 9]) ?_ rfl ⟨_, _, _, _, HE.out, rfl, ?_⟩
      · simp [results, Try.results90, go_sem, *]
      · exact below_set3 (below_drewN (below1 _ _) _) (Nat.le_refl _) _ _ _
end Go.Proofs.Ytmikhkolbkdnpaa
