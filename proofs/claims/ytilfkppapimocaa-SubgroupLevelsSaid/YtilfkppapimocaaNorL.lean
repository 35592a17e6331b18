/- The contract of the code's Normal. -/
import Derived.Test.YtilfkppapimocaaNrL
namespace Go.Proofs.Ytilfkppapimocaa
open Go.RowKit
set_option linter.unusedVariables false

def lvB (n : Int) : Bool := decide (1 ≤ n) && decide (n ≤ 120)
theorem lvB_yes {n : Int} (h : 1 ≤ n) (k : n ≤ 120) : lvB n = true := by unfold lvB; simp; omega
theorem lvB_no {n : Int} (h : n < 1 ∨ 120 < n) : lvB n = false := by
  unfold lvB
  rcases h with h | h
  · rw [decide_eq_false (by omega), Bool.false_and]
  · rw [decide_eq_false (show ¬ n ≤ 120 by omega), Bool.and_false]
theorem isLevel_any (n : Int) (w : World) : Calls Try.prog 82 #[.int .i64 n] w fun e w' => e = .returned (.bool (lvB n)) ∧ w = w' := by
  rcases Int.lt_or_le n 1 with h | h
  · rw [lvB_no (.inl h)]
    have hd : decide (1 ≤ n) = false := decide_eq_false (by omega)
    go_enter Try.func82, Try.ntmps82
    go_wp2
    go_ret
    exact ⟨rfl, rfl⟩
  · rcases Int.lt_or_le 120 n with k | k
    · rw [lvB_no (.inr k)]
      have hd : decide (1 ≤ n) = true := decide_eq_true (by omega)
      have hd2 : decide (n ≤ 120) = false := decide_eq_false (by omega)
      go_enter Try.func82, Try.ntmps82
      go_wp2
      go_ret
      exact ⟨rfl, rfl⟩
    · rw [lvB_yes h k]
      have hd : decide (1 ≤ n) = true := decide_eq_true (by omega)
      have hd2 : decide (n ≤ 120) = true := decide_eq_true (by omega)
      go_enter Try.func82, Try.ntmps82
      go_wp2
      go_ret
      exact ⟨rfl, rfl⟩
theorem pisEntry_any (n : Int) (w : World) : Calls Try.prog 83 #[.int .i64 n] w fun e w' => e = .returned (.bool (inE n)) ∧ w = w' := by
  rcases Int.lt_or_le n (-1073741824) with h | h
  · have hi := inE_no (n := n) (.inl h)
    rw [hi]
    have hd : decide (-1073741824 ≤ n) = false := decide_eq_false (by omega)
    go_enter Try.func83, Try.ntmps83
    go_wp2
    go_ret
    exact ⟨rfl, rfl⟩
  · rcases Int.lt_or_le 1073741824 n with k | k
    · have hi := inE_no (n := n) (.inr k)
      rw [hi]
      have hd : decide (-1073741824 ≤ n) = true := decide_eq_true (by omega)
      have hd2 : decide (n ≤ 1073741824) = false := decide_eq_false (by omega)
      go_enter Try.func83, Try.ntmps83
      go_wp2
      go_ret
      exact ⟨rfl, rfl⟩
    · have hi := inE_yes h k
      rw [hi]
      have hd : decide (-1073741824 ≤ n) = true := decide_eq_true (by omega)
      have hd2 : decide (n ≤ 1073741824) = true := decide_eq_true (by omega)
      go_enter Try.func83, Try.ntmps83
      go_wp2
      go_ret
      exact ⟨rfl, rfl⟩
/-- What Normal answers. -/
inductive NorE (n c d : Int) : Int → Int → Int → Int → Prop
  | out : (lvB n = false ∨ inE c = false ∨ inE d = false) → NorE n c d 0 0 0 2
  | cop : 1 ≤ n → n ≤ 120 → inE c = true → inE d = true → ¬ Int.gcd (Int.gcd c d) n = 1 → NorE n c d 0 0 0 9
  | yes (U V T : Int) : 1 ≤ n → n ≤ 120 → inE c = true → inE d = true → Int.gcd (Int.gcd c d) n = 1 → NF n c d U V T → NorE n c d U V T 0
theorem lvB_iff {n : Int} : lvB n = true ↔ 1 ≤ n ∧ n ≤ 120 := by unfold lvB; simp
theorem nor_cases (n c d : Int) : (lvB n = false ∨ inE c = false ∨ inE d = false) ∨ (1 ≤ n ∧ n ≤ 120 ∧ inE c = true ∧ inE d = true) := by
  cases h1 : lvB n
  · exact .inl (.inl rfl)
  · cases h2 : inE c
    · exact .inl (.inr (.inl rfl))
    · cases h3 : inE d
      · exact .inl (.inr (.inr rfl))
      · exact .inr ⟨(lvB_iff.1 h1).1, (lvB_iff.1 h1).2, rfl, rfl⟩
theorem NorE.unique {n c d U V T k U' V' T' k' : Int} (h : NorE n c d U V T k) (h' : NorE n c d U' V' T' k') : U = U' ∧ V = V' ∧ T = T' ∧ k = k' := by
  cases h with
  | out h =>
    cases h' with
    | out _ => exact ⟨rfl, rfl, rfl, rfl⟩
    | cop h1 h2 h3 h4 _ => rw [lvB_yes h1 h2, h3, h4] at h; simp at h
    | yes _ _ _ h1 h2 h3 h4 _ _ => rw [lvB_yes h1 h2, h3, h4] at h; simp at h
  | cop h1 h2 h3 h4 h5 =>
    cases h' with
    | out h => rw [lvB_yes h1 h2, h3, h4] at h; simp at h
    | cop _ _ _ _ _ => exact ⟨rfl, rfl, rfl, rfl⟩
    | yes _ _ _ _ _ _ _ h6 _ => exact absurd h6 h5
  | yes _ _ _ h1 h2 h3 h4 h5 hn =>
    cases h' with
    | out h => rw [lvB_yes h1 h2, h3, h4] at h; simp at h
    | cop _ _ _ _ h6 => exact absurd h5 h6
    | yes _ _ _ _ _ _ _ _ hn' =>
      obtain ⟨a, b, c⟩ := hn.unique (cop3_of h5) hn'
      exact ⟨a, b, c, rfl⟩
def NorRet (n c d : Int) (w : World) (e : Ending) (w' : World) : Prop :=
  ∃ U V T k, NorE n c d U V T k ∧ e = .returned (.tuple #[.agg #[.int .i64 U, .int .i64 V, .int .i64 T], .int .i64 k]) ∧ Below w.heap.size w w'
theorem mid_gcd {c d : Int} (hc : inE c = true) (hd : inE d = true) : Mid ((Int.gcd c d : Nat) : Int) := by
  have := gcd_mid (a := c) (b := d) (by have := inE_iff.1 hc; unfold Mid; omega) (by have := inE_iff.1 hd; unfold Mid; omega)
  unfold Mid; omega
set_option maxHeartbeats 3200000 in
set_option maxRecDepth 1000000 in
theorem pnormal_any (n c d : Int) (w : World) : Calls Try.prog 81 #[.int .i64 n, .int .i64 c, .int .i64 d] w (NorRet n c d w) := by
  have HL := Lib.hid (fun W => isLevel_any n W)
  have HC := Lib.hid (fun W => pisEntry_any c W)
  have HD := Lib.hid (fun W => pisEntry_any d W)
  rcases nor_cases n c d with h | ⟨n1, n2, hc, hd⟩
  · have HE : Hid (NorE n c d 0 0 0 2) := NorE.out h
    rcases h with h | h | h
    · rw [h] at HL
      clear h
      go_enter Try.func81, Try.ntmps81
      go_wp2_with (first
        | (go_at_call 82; ((with_reducible refine (HL.out _).mono ?_); rintro e w' ⟨rfl, rfl⟩))
        | fail)
      refine bodyPost_ret (v := .tuple #[.agg #[.int .i64 0, .int .i64 0, .int .i64 0], .int .i64 2]) ?_ rfl ⟨_, _, _, _, HE.out, rfl, ?_⟩
      · simp [results, Try.results81, go_sem, *]
      · exact below1 _ _
    all_goals
      generalize lvB n = bl at *
      generalize hic : inE c = bc at *
      generalize hid : inE d = bd at *
      subst h
      clear hic hid
      cases bl <;> (try cases bc) <;> (try cases bd)
    all_goals
      go_enter Try.func81, Try.ntmps81
      go_wp2_with (first
        | (go_at_call 82; ((with_reducible refine (HL.out _).mono ?_); rintro e w' ⟨rfl, rfl⟩))
        | (go_at_call 83; ((with_reducible refine (HC.out _).mono ?_); rintro e w' ⟨rfl, rfl⟩))
        | (go_at_call 83; ((with_reducible refine (HD.out _).mono ?_); rintro e w' ⟨rfl, rfl⟩))
        | fail)
      refine bodyPost_ret (v := .tuple #[.agg #[.int .i64 0, .int .i64 0, .int .i64 0], .int .i64 2]) ?_ rfl ⟨_, _, _, _, HE.out, rfl, ?_⟩
      · simp [results, Try.results81, go_sem, *]
      · exact below1 _ _
  · rw [lvB_yes n1 n2] at HL
    rw [hc] at HC
    rw [hd] at HD
    have bc := inE_iff.1 hc
    have bd := inE_iff.1 hd
    have HG := Lib.hid (fun W => gcd_any c d W (by unfold Mid; omega) (by unfold Mid; omega))
    have HG2 := Lib.hid (fun W => gcd_any (Int.gcd c d) n W (mid_gcd hc hd) (by unfold Mid; omega))
    have HN := Lib.hid (fun W => normal_any n c d W n1 n2 (by omega) (by omega) (by omega) (by omega))
    obtain ⟨g, hg⟩ : ∃ g : Nat, g = Int.gcd (Int.gcd c d) n := ⟨_, rfl⟩
    rw [← hg] at HG2
    by_cases hg1 : g = 1
    · have HY : Hid (∀ U V T, NF n c d U V T → NorE n c d U V T 0) := fun U V T h => .yes U V T n1 n2 hc hd (by rw [← hg]; exact hg1) h
      rw [hg1] at HG2
      clear hg hg1 hc hd bc bd
      generalize Int.gcd c d = g0 at *
      go_enter Try.func81, Try.ntmps81
      go_wp2_with (first
        | (go_at_call 82; ((with_reducible refine (HL.out _).mono ?_); rintro e w' ⟨rfl, rfl⟩))
        | (go_at_call 83; ((with_reducible refine (HC.out _).mono ?_); rintro e w' ⟨rfl, rfl⟩))
        | (go_at_call 83; ((with_reducible refine (HD.out _).mono ?_); rintro e w' ⟨rfl, rfl⟩))
        | (go_at_call 58; ((with_reducible refine (HG.out _).mono ?_); rintro e w' ⟨rfl, q1, rfl⟩))
        | (go_at_call 58; ((with_reducible refine (HG2.out _).mono ?_); rintro e w' ⟨rfl, q2, rfl⟩))
        | (go_at_call 84; ((with_reducible refine (HN.out _).mono ?_); rintro e w3 ⟨U, V, T, hN, rfl, hb⟩; have HE := Lib.hid (HY.out U V T hN); have HT := Lib.hid (Tri.below ((Tri.at w rfl 0 0 0).drewN _) hb); have HB := Lib.hid (bel0 (below_drewN (below1 w _) _) hb); have hz := HT.out.lt; have hf := HT.out.free; obtain ⟨k1, k2, k3⟩ := HT.out.cells; clear hN hb))
        | fail)
      obtain ⟨d1, d2, d3⟩ := (HT.out.set U V T).cells
      refine bodyPost_ret (v := .tuple #[.agg #[.int .i64 U, .int .i64 V, .int .i64 T], .int .i64 0]) ?_ rfl ⟨_, _, _, _, HE.out, rfl, ?_⟩
      · simp [results, Try.results81, go_sem, *]
      · exact below_set3 HB.out (Nat.le_refl _) _ _ _
    · have HE : Hid (NorE n c d 0 0 0 9) := .cop n1 n2 hc hd (by rw [← hg]; exact hg1)
      have hg2 : ((g : Int) != 1) = true := by rw [bne_iff_ne]; omega
      clear hg hg1 hc hd bc bd
      generalize Int.gcd c d = g0 at *
      go_enter Try.func81, Try.ntmps81
      go_wp2_with (first
        | (go_at_call 82; ((with_reducible refine (HL.out _).mono ?_); rintro e w' ⟨rfl, rfl⟩))
        | (go_at_call 83; ((with_reducible refine (HC.out _).mono ?_); rintro e w' ⟨rfl, rfl⟩))
        | (go_at_call 83; ((with_reducible refine (HD.out _).mono ?_); rintro e w' ⟨rfl, rfl⟩))
        | (go_at_call 58; ((with_reducible refine (HG.out _).mono ?_); rintro e w' ⟨rfl, q1, rfl⟩))
        | (go_at_call 58; ((with_reducible refine (HG2.out _).mono ?_); rintro e w' ⟨rfl, q2, rfl⟩))
        | fail)
      refine bodyPost_ret (v := .tuple #[.agg #[.int .i64 0, .int .i64 0, .int .i64 0], .int .i64 9]) ?_ rfl ⟨_, _, _, _, HE.out, rfl, ?_⟩
      · simp [results, Try.results81, go_sem, *]
      · exact below_set3 (below_drewN (below1 _ _) _) (Nat.le_refl _) _ _ _
end Go.Proofs.Ytilfkppapimocaa
