/- The contract of the reference's Normal. -/
import Derived.Test.YtgnekmaonnjfkaaRNrL
namespace Go.Proofs.Ytgnekmaonnjfkaa
open Go.RowKit
set_option linter.unusedVariables false

def errI (n : Int) : Int := if n < 1 ∨ 120 < n then 2 else 0
theorem errI_no {n : Int} (h : lvB n = false) : errI n = 2 := if_pos (by
  rcases Int.lt_or_le n 1 with h1 | h1
  · exact .inl h1
  · rcases Int.lt_or_le 120 n with h2 | h2
    · exact .inr h2
    · rw [lvB_yes h1 h2] at h; cases h)
theorem errI_yes {n : Int} (h : lvB n = true) : errI n = 0 := if_neg (by have := lvB_iff.1 h; omega)
theorem rerr_any (n : Int) (w : World) : Calls Try.prog 34 #[.int .i64 n] w fun e w' => e = .returned (.int .i64 (errI n)) ∧ w = w' := by
  by_cases h : n < 1
  · rw [show errI n = 2 from if_pos (.inl h)]
    go_enter Try.func34, Try.ntmps34
    go_wp2
    go_ret
    exact ⟨rfl, rfl⟩
  · by_cases h2 : 120 < n
    · rw [show errI n = 2 from if_pos (.inr h2)]
      go_enter Try.func34, Try.ntmps34
      go_wp2
      go_ret
      exact ⟨rfl, rfl⟩
    · rw [show errI n = 0 from if_neg (by omega)]
      go_enter Try.func34, Try.ntmps34
      go_wp2
      go_ret
      exact ⟨rfl, rfl⟩
set_option maxHeartbeats 1600000 in
set_option maxRecDepth 1000000 in
theorem pmod_any (a q : Int) (w : World) (a1 : -1152921504606846976 ≤ a) (a2 : a ≤ 1152921504606846976) (q1 : 1 ≤ q) (q2 : q ≤ 120) : Calls Try.prog 27 #[.int .i64 a, .int .i64 q] w fun e w' => e = .returned (.int .i64 (a % q)) ∧ w' = w := by
  have hm := tmod_add a q (by omega)
  have hs := tmod_same a q (by omega)
  have b1 : (a.tmod q).natAbs < q.natAbs := by rw [Int.natAbs_tmod]; exact Nat.mod_lt _ (by omega)
  by_cases h : a.tmod q < 0
  · have e := hm h
    clear hm hs
    go_enter Try.func27, Try.ntmps27
    go_wp2
    go_ret
    exact ⟨rfl, rfl⟩
  · have e := hs (by omega)
    clear hm hs
    rw [← e]
    go_enter Try.func27, Try.ntmps27
    go_wp2
    go_ret
    exact ⟨rfl, rfl⟩
set_option maxHeartbeats 3200000 in
set_option maxRecDepth 1000000 in
theorem rnormal_any (n c d : Int) (w : World) : Calls Try.prog 14 #[.int .i64 n, .int .i64 c, .int .i64 d] w (NorRet n c d w) := by
  have HL := Lib.hid (fun W => rerr_any n W)
  have HC := Lib.hid (fun W => rIn_any c W)
  have HD := Lib.hid (fun W => rIn_any d W)
  rcases nor_cases n c d with h | ⟨n1, n2, hc, hd⟩
  · have HE : Hid (NorE n c d 0 0 0 2) := NorE.out h
    rcases h with h | h | h
    · rw [errI_no h] at HL
      clear h
      go_enter Try.func14, Try.ntmps14
      go_wp2_with (first
        | (go_at_call 34; ((with_reducible refine (HL.out _).mono ?_); rintro e w' ⟨rfl, rfl⟩))
        | fail)
      refine bodyPost_ret (v := .tuple #[.agg #[.int .i64 0, .int .i64 0, .int .i64 0], .int .i64 2]) ?_ rfl ⟨_, _, _, _, HE.out, rfl, ?_⟩
      · simp [results, Try.results14, go_sem, *]
      · exact below1 _ _
    all_goals
      have hl1 : lvB n = false → errI n = 2 := errI_no
      have hl2 : lvB n = true → errI n = 0 := errI_yes
      generalize hlv : lvB n = bl at *
      generalize hic : inE c = bc at *
      generalize hid : inE d = bd at *
      subst h
      clear hic hid
      cases bl
      · rw [hl1 rfl] at HL
        clear hl1 hl2 hlv
        go_enter Try.func14, Try.ntmps14
        go_wp2_with (first
          | (go_at_call 34; ((with_reducible refine (HL.out _).mono ?_); rintro e w' ⟨rfl, rfl⟩))
          | fail)
        refine bodyPost_ret (v := .tuple #[.agg #[.int .i64 0, .int .i64 0, .int .i64 0], .int .i64 2]) ?_ rfl ⟨_, _, _, _, HE.out, rfl, ?_⟩
        · simp [results, Try.results14, go_sem, *]
        · exact below1 _ _
      rw [hl2 rfl] at HL
      clear hl1 hl2 hlv
      (try cases bc) <;> (try cases bd)
    all_goals
      go_enter Try.func14, Try.ntmps14
      go_wp2_with (first
        | (go_at_call 34; ((with_reducible refine (HL.out _).mono ?_); rintro e w' ⟨rfl, rfl⟩))
        | (go_at_call 35; ((with_reducible refine (HC.out _).mono ?_); rintro e w' ⟨rfl, rfl⟩))
        | (go_at_call 35; ((with_reducible refine (HD.out _).mono ?_); rintro e w' ⟨rfl, rfl⟩))
        | fail)
      refine bodyPost_ret (v := .tuple #[.agg #[.int .i64 0, .int .i64 0, .int .i64 0], .int .i64 2]) ?_ rfl ⟨_, _, _, _, HE.out, rfl, ?_⟩
      · simp [results, Try.results14, go_sem, *]
      · exact below1 _ _
  · rw [errI_yes (lvB_yes n1 n2)] at HL
    rw [hc] at HC
    rw [hd] at HD
    have bc := inE_iff.1 hc
    have bd := inE_iff.1 hd
    have HG := Lib.hid (fun W => rGcd_any c d W (by unfold Mid; omega) (by unfold Mid; omega))
    have HG2 := Lib.hid (fun W => rGcd_any (Int.gcd c d) n W (mid_gcd hc hd) (by unfold Mid; omega))
    have HMc := Lib.hid (fun W => pmod_any c n W (by omega) (by omega) n1 n2)
    have HMd := Lib.hid (fun W => pmod_any d n W (by omega) (by omega) n1 n2)
    have HN : Hid (∀ W, Calls Try.prog 36 #[.int .i64 n, .int .i64 (c % n), .int .i64 (d % n)] W fun e w' => ∃ U V T, NF n (c % n) (d % n) U V T ∧ e = .returned (.agg #[.int .i64 U, .int .i64 V, .int .i64 T]) ∧ Below W.heap.size W w') := fun W => rleast_any n (c % n) (d % n) W n1 n2 (Int.emod_nonneg _ (by omega)) (Int.emod_lt_of_pos _ (by omega)) (Int.emod_nonneg _ (by omega)) (Int.emod_lt_of_pos _ (by omega))
    obtain ⟨g, hg⟩ : ∃ g : Nat, g = Int.gcd (Int.gcd c d) n := ⟨_, rfl⟩
    rw [← hg] at HG2
    by_cases hg1 : g = 1
    · have HY : Hid (∀ U V T, NF n (c % n) (d % n) U V T → NorE n c d U V T 0) := fun U V T h => .yes U V T n1 n2 hc hd (by rw [← hg]; exact hg1) h.of_mod
      rw [hg1] at HG2
      clear hg hg1 hc hd bc bd
      generalize Int.gcd c d = g0 at *
      generalize c % n = cm at *
      generalize d % n = dm at *
      go_enter Try.func14, Try.ntmps14
      go_wp2_with (first
        | (go_at_call 34; ((with_reducible refine (HL.out _).mono ?_); rintro e w' ⟨rfl, rfl⟩))
        | (go_at_call 35; ((with_reducible refine (HC.out _).mono ?_); rintro e w' ⟨rfl, rfl⟩))
        | (go_at_call 35; ((with_reducible refine (HD.out _).mono ?_); rintro e w' ⟨rfl, rfl⟩))
        | (go_at_call 15; ((with_reducible refine (HG.out _).mono ?_); rintro e w' ⟨rfl, q1, rfl⟩))
        | (go_at_call 15; ((with_reducible refine (HG2.out _).mono ?_); rintro e w' ⟨rfl, q2, rfl⟩))
        | (go_at_call 27; ((with_reducible refine (HMc.out _).mono ?_); rintro e w' ⟨rfl, rfl⟩))
        | (go_at_call 27; ((with_reducible refine (HMd.out _).mono ?_); rintro e w' ⟨rfl, rfl⟩))
        | (go_at_call 36; ((with_reducible refine (HN.out _).mono ?_); rintro e w3 ⟨U, V, T, hN, rfl, hb⟩; have HE := Lib.hid (HY.out U V T hN); have HT := Lib.hid (Tri.below ((Tri.at w rfl 0 0 0).drewN _) hb); have HB := Lib.hid (bel0 (below_drewN (below1 w _) _) hb); have hz := HT.out.lt; have hf := HT.out.free; obtain ⟨k1, k2, k3⟩ := HT.out.cells; clear hN hb))
        | fail)
      obtain ⟨d1, d2, d3⟩ := (HT.out.set U V T).cells
      refine bodyPost_ret (v := .tuple #[.agg #[.int .i64 U, .int .i64 V, .int .i64 T], .int .i64 0]) ?_ rfl ⟨_, _, _, _, HE.out, rfl, ?_⟩
      · simp [results, Try.results14, go_sem, *]
      · exact below_set3 HB.out (Nat.le_refl _) _ _ _
    · have HE : Hid (NorE n c d 0 0 0 9) := .cop n1 n2 hc hd (by rw [← hg]; exact hg1)
      have hg2 : ((g : Int) != 1) = true := by rw [bne_iff_ne]; omega
      clear hg hg1 hc hd bc bd
      generalize Int.gcd c d = g0 at *
      go_enter Try.func14, Try.ntmps14
      go_wp2_with (first
        | (go_at_call 34; ((with_reducible refine (HL.out _).mono ?_); rintro e w' ⟨rfl, rfl⟩))
        | (go_at_call 35; ((with_reducible refine (HC.out _).mono ?_); rintro e w' ⟨rfl, rfl⟩))
        | (go_at_call 35; ((with_reducible refine (HD.out _).mono ?_); rintro e w' ⟨rfl, rfl⟩))
        | (go_at_call 15; ((with_reducible refine (HG.out _).mono ?_); rintro e w' ⟨rfl, q1, rfl⟩))
        | (go_at_call 15; ((with_reducible refine (HG2.out _).mono ?_); rintro e w' ⟨rfl, q2, rfl⟩))
        | fail)
      refine bodyPost_ret (v := .tuple #[.agg #[.int .i64 0, .int .i64 0, .int .i64 0], .int .i64 9]) ?_ rfl ⟨_, _, _, _, HE.out, rfl, ?_⟩
      · simp [results, Try.results14, go_sem, *]
      · exact below_set3 (below_drewN (below1 _ _) _) (Nat.le_refl _) _ _ _
end Go.Proofs.Ytgnekmaonnjfkaa
