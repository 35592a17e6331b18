/- The contract of the reference's Mediant. -/
import Derived.Test.YtbkombklfpjjpaaMedL
import Derived.Test.YtbkombklfpjjpaaRUniL
namespace Go.Proofs.Ytbkombklfpjjpaa
open Go.RowKit

set_option maxHeartbeats 3200000 in
set_option maxRecDepth 1000000 in
theorem rmediant_any (a b c d x y k : Int) (w : World) (hr : medE a b c d = (x, y, k)) :
    Calls Try.prog 32 #[.agg #[.int .i64 a, .int .i64 b], .agg #[.int .i64 c, .int .i64 d]] w fun e w' => e = .returned (.tuple #[.agg #[.int .i64 x, .int .i64 y], .int .i64 k]) ∧ Below w.heap.size w w' := by
  have HC := Lib.hid (fun W => rchecks_any a b c d W)
  by_cases h : bothI a b c d = 0
  · obtain ⟨g1, g2⟩ := both_ok h
    obtain ⟨a0, b2, a1⟩ := cuspI_zero.1 g1
    obtain ⟨c0, d2, c1⟩ := cuspI_zero.1 g2
    obtain ⟨a1', a2⟩ := inE_iff.1 a0
    obtain ⟨c1', c2⟩ := inE_iff.1 c0
    have b1 := a1.pos
    have d1 := c1.pos
    have HM := Lib.hid (And.intro (@med_2 a b c d h) (And.intro (@med_3 a b c d h) (@med_4 a b c d h)))
    have HP1 : Hid (b = 0 → medP a b = -1) := fun h => if_pos h
    have HP2 : Hid (¬ b = 0 → medP a b = a) := fun h => if_neg h
    have hp1 : -1073741824 ≤ medP a b := by unfold medP; split <;> omega
    have hp2 : medP a b ≤ 1073741824 := by unfold medP; split <;> omega
    rw [hr] at HM
    rw [h] at HC
    clear hr h g1 g2 a0 c0 a1 c1
    generalize medP a b = P at *
    obtain ⟨r1, r2⟩ := prod_le c1' c2 (show -1073741824 ≤ b by omega) b2
    obtain ⟨r3, r4⟩ := prod_le hp1 hp2 (show -1073741824 ≤ d by omega) d2
    go_enter Try.func32, Try.ntmps32
    go_upto_if 17 with (first
      | (go_at_call 46; ((with_reducible refine (HC.out _).mono ?_); rintro e w1 ⟨rfl, hb⟩; obtain ⟨hc, hf⟩ := bcell hb; obtain ⟨hz0, hz1, hz2⟩ : w.heap.size < w1.heap.size ∧ w.heap.size + 1 < w1.heap.size ∧ w.heap.size + 1 + 1 < w1.heap.size := (by have := hb.size; (try simp at this); omega); have T1 := Lib.hid (Thr.start hb); clear hb))
      | fail)
    go_cut [] (fun wx => ∃ W : World, W = wx ∧ Hid (Thr w W P b c d))
    case first =>
      by_cases hb0 : b = 0
      · have HPP := Lib.hid (HP1.out hb0)
        subst hb0
        go_wp2_with fail
        go_meet
        exact ⟨_, rfl, by rw [HPP.out]; exact T1.out.set _⟩
      · have HPP := Lib.hid (HP2.out hb0)
        have hb1 : (b == 0) = false := by simpa using hb0
        go_wp2_with fail
        go_meet
        exact ⟨_, rfl, by rw [HPP.out]; exact T1.out⟩
    case rest =>
      obtain ⟨W, hW, HT⟩ := hcut
      subst hW
      clear T1 hc hf hz0 hz1 hz2 HP1 HP2
      have HB := Lib.hid HT.out.bel
      obtain ⟨⟨x0, x1⟩, xf⟩ := two_of_block HT.out.x
      obtain ⟨⟨y0, y1⟩, yf⟩ := two_of_block HT.out.y
      obtain ⟨⟨z0, z1⟩, zf⟩ := two_of_block HT.out.z
      have hz0 := lt_of_block HT.out.x
      have hz1 := lt_of_block HT.out.y
      have hz2 := lt_of_block HT.out.z
      clear HT
      have HIP := Lib.hid (fun W => rIn_any (P + c) W)
      have HIQ := Lib.hid (fun W => rIn_any (b + d) W)
      by_cases k1 : c * b - P * d = 1
      · have HM3 := Lib.hid (HM.out.2.1 k1)
        have HM4 := Lib.hid (HM.out.2.2 k1)
        clear HM
        cases l1 : inE (P + c) with
        | false =>
          have e := HM3.out (.inl l1)
          cases e
          rw [l1] at HIP
          clear HM3 HM4 l1
          go_wp2_with (first
            | (go_at_call 41; ((with_reducible first | refine (HIP.out _).mono ?_ | refine (HIQ.out _).mono ?_ | fail); rintro e wx ⟨rfl, rfl⟩))
            | fail)
          refine bodyPost_ret (v := .tuple #[.agg #[.int .i64 0, .int .i64 0], .int .i64 7]) ?_ rfl ⟨rfl, ?_⟩
          · simp [results, Try.results32, go_sem, *]
          · first | exact below_set2 HB.out (by omega) _ _ | exact (below_set2 HB.out (by omega) _ _).alloc (by simp; omega) _ | exact below_set2 (HB.out.alloc HB.out.size _) (by omega) _ _ | fail
        | true =>
          rw [l1] at HIP
          cases l2 : inE (b + d) with
          | false =>
            have e := HM3.out (.inr l2)
            cases e
            rw [l2] at HIQ
            clear HM3 HM4 l1 l2
            go_wp2_with (first
              | (go_at_call 41; ((with_reducible first | refine (HIP.out _).mono ?_ | refine (HIQ.out _).mono ?_ | fail); rintro e wx ⟨rfl, rfl⟩))
              | fail)
            refine bodyPost_ret (v := .tuple #[.agg #[.int .i64 0, .int .i64 0], .int .i64 7]) ?_ rfl ⟨rfl, ?_⟩
            · simp [results, Try.results32, go_sem, *]
            · first | exact below_set2 HB.out (by omega) _ _ | exact (below_set2 HB.out (by omega) _ _).alloc (by simp; omega) _ | exact below_set2 (HB.out.alloc HB.out.size _) (by omega) _ _ | fail
          | true =>
            have e := HM4.out (by rw [l1, l2]; simp)
            cases e
            rw [l2] at HIQ
            clear HM3 HM4 l1 l2
            go_wp2_with (first
              | (go_at_call 41; ((with_reducible first | refine (HIP.out _).mono ?_ | refine (HIQ.out _).mono ?_ | fail); rintro e wx ⟨rfl, rfl⟩))
              | fail)
            refine bodyPost_ret (v := .tuple #[.agg #[.int .i64 (P + c), .int .i64 (b + d)], .int .i64 0]) ?_ rfl ⟨rfl, ?_⟩
            · simp [results, Try.results32, go_sem, *]
            · first | exact below_set2 HB.out (by omega) _ _ | exact (below_set2 HB.out (by omega) _ _).alloc (by simp; omega) _ | exact below_set2 (HB.out.alloc HB.out.size _) (by omega) _ _ | fail
      · have e := HM.out.1 k1
        cases e
        have k2 : (c * b - P * d != 1) = true := by simpa using k1
        clear HM
        go_wp2_with (first
          | (go_at_call 41; ((with_reducible first | refine (HIP.out _).mono ?_ | refine (HIQ.out _).mono ?_ | fail); rintro e wx ⟨rfl, rfl⟩))
          | fail)
        refine bodyPost_ret (v := .tuple #[.agg #[.int .i64 0, .int .i64 0], .int .i64 3]) ?_ rfl ⟨rfl, ?_⟩
        · simp [results, Try.results32, go_sem, *]
        · first | exact below_set2 HB.out (by omega) _ _ | exact (below_set2 HB.out (by omega) _ _).alloc (by simp; omega) _ | exact below_set2 (HB.out.alloc HB.out.size _) (by omega) _ _ | fail
  · rw [med_1 h] at hr
    cases hr
    rcases both_vals a b c d with h0 | h0 | h0
    · exact absurd h0 h
    all_goals
      rw [h0] at HC ⊢
      clear h h0
      go_enter Try.func32, Try.ntmps32
      go_wp2_with (first
        | (go_at_call 46; ((with_reducible refine (HC.out _).mono ?_); rintro e w1 ⟨rfl, hb⟩; obtain ⟨hc, hf⟩ := bcell hb; obtain ⟨hz0, hz1, hz2⟩ : w.heap.size < w1.heap.size ∧ w.heap.size + 1 < w1.heap.size ∧ w.heap.size + 1 + 1 < w1.heap.size := (by have := hb.size; (try simp at this); omega); have HB := Lib.hid ((below3 w _ _ _).trans (hb.mono (by simp; omega))); clear hb))
        | fail)
      first
        | (refine bodyPost_ret (v := .tuple #[.agg #[.int .i64 0, .int .i64 0], .int .i64 2]) ?_ rfl ⟨rfl, below_set2 HB.out (by omega) _ _⟩; simp [results, Try.results32, go_sem, *])
        | (refine bodyPost_ret (v := .tuple #[.agg #[.int .i64 0, .int .i64 0], .int .i64 3]) ?_ rfl ⟨rfl, below_set2 HB.out (by omega) _ _⟩; simp [results, Try.results32, go_sem, *])
end Go.Proofs.Ytbkombklfpjjpaa
