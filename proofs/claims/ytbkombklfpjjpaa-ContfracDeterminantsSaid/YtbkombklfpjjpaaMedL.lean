/- The contract of Mediant. -/
import Derived.Test.YtbkombklfpjjpaaUniL
import Derived.Deep.CutBlock
import Derived.Deep.DeepCutAuto
namespace Go.Proofs.Ytbkombklfpjjpaa
open Go.RowKit

/-- The first cusp of Mediant: infinity is less than all others. -/
def medP (a b : Int) : Int := if b = 0 then -1 else a
/-- The cusp and the error of Mediant. -/
def medE (a b c d : Int) : Int × Int × Int :=
  if bothI a b c d ≠ 0 then (0, 0, bothI a b c d)
  else if ¬ c * b - medP a b * d = 1 then (0, 0, 3)
  else if inE (medP a b + c) = false ∨ inE (b + d) = false then (0, 0, 7) else (medP a b + c, b + d, 0)
theorem med_1 {a b c d : Int} (h : bothI a b c d ≠ 0) : medE a b c d = (0, 0, bothI a b c d) := if_pos h
theorem med_2 {a b c d : Int} (h : bothI a b c d = 0) (k : ¬ c * b - medP a b * d = 1) : medE a b c d = (0, 0, 3) := by
  unfold medE; rw [if_neg (by simpa using h), if_pos k]
theorem med_3 {a b c d : Int} (h : bothI a b c d = 0) (k : c * b - medP a b * d = 1) (l : inE (medP a b + c) = false ∨ inE (b + d) = false) : medE a b c d = (0, 0, 7) := by
  unfold medE; rw [if_neg (by simpa using h), if_neg (by simpa using k), if_pos l]
theorem med_4 {a b c d : Int} (h : bothI a b c d = 0) (k : c * b - medP a b * d = 1) (l : ¬ (inE (medP a b + c) = false ∨ inE (b + d) = false)) : medE a b c d = (medP a b + c, b + d, 0) := by
  unfold medE; rw [if_neg (by simpa using h), if_neg (by simpa using k), if_neg l]
/-- Three boxes of cusps, the last one for the result. -/
structure Thr (w W : World) (p q r s : Int) : Prop where
  x : W.heap[w.heap.size]? = some (.cells #[.int .i64 p, .int .i64 q] 23 (0, 0))
  y : W.heap[w.heap.size + 1]? = some (.cells #[.int .i64 r, .int .i64 s] 23 (0, 0))
  z : W.heap[w.heap.size + 1 + 1]? = some (.cells #[.int .i64 0, .int .i64 0] 23 (0, 0))
  bel : Below w.heap.size w W
theorem Thr.start {w w1 : World} {p q r s : Int} (hb : Below (((w.alloc (.cells #[.int .i64 p, .int .i64 q] 23)).alloc (.cells #[.int .i64 r, .int .i64 s] 23)).alloc (.cells #[.int .i64 0, .int .i64 0] 23)).heap.size (((w.alloc (.cells #[.int .i64 p, .int .i64 q] 23)).alloc (.cells #[.int .i64 r, .int .i64 s] 23)).alloc (.cells #[.int .i64 0, .int .i64 0] 23)) w1) : Thr w w1 p q r s := by
  refine ⟨block_below (block_alloc (block_alloc (heap_alloc_new w _) _) _) hb, block_below (block_alloc ?_ _) hb, block_below ?_ hb, (below3 w _ _ _).trans (hb.mono (by simp; omega))⟩
  · have := heap_alloc_new (w.alloc (.cells #[.int .i64 p, .int .i64 q] 23)) (.cells #[.int .i64 r, .int .i64 s] 23)
    rwa [World.size_alloc] at this
  · have := heap_alloc_new ((w.alloc (.cells #[.int .i64 p, .int .i64 q] 23)).alloc (.cells #[.int .i64 r, .int .i64 s] 23)) (.cells #[.int .i64 0, .int .i64 0] 23)
    rwa [World.size_alloc, World.size_alloc] at this
theorem Thr.set {w W : World} {p q r s : Int} (h : Thr w W p q r s) (p' : Int) : Thr w (W.setCell ⟨w.heap.size, 0, none⟩ (.int .i64 p')) p' q r s :=
  ⟨two_set0 h.x _, set_ne h.y (by omega) _, set_ne h.z (by omega) _, h.bel.setCell (Nat.le_refl _) _⟩
set_option maxHeartbeats 3200000 in
set_option maxRecDepth 1000000 in
theorem mediant_any (a b c d x y k : Int) (w : World) (hr : medE a b c d = (x, y, k)) :
    Calls Try.prog 31 #[.agg #[.int .i64 a, .int .i64 b], .agg #[.int .i64 c, .int .i64 d]] w fun e w' => e = .returned (.tuple #[.agg #[.int .i64 x, .int .i64 y], .int .i64 k]) ∧ Below w.heap.size w w' := by
  have HC := Lib.hid (fun W => checkBoth_any a b c d W)
  by_cases h : bothI a b c d = 0
  · obtain ⟨g1, g2⟩ := both_ok h
    obtain ⟨a0, b2, a1⟩ := cuspI_zero.1 g1
    obtain ⟨c0, d2, c1⟩ := cuspI_zero.1 g2
    obtain ⟨a1', a2⟩ := inE_iff.1 a0
    obtain ⟨c1', c2⟩ := inE_iff.1 c0
    have b1 := a1.pos
    have d1 := c1.pos
    have HM := Lib.hid (And.intro (@med_2 a b c d h) (And.intro (@med_3 a b c d h) (@med_4 a b c d h)))
    have HP1 : Hid (b = 0 → medP a b = -1) := fun h => if_pos h
    have HP2 : Hid (¬ b = 0 → medP a b = a) := fun h => if_neg h
    have hp1 : -1073741824 ≤ medP a b := by unfold medP; split <;> omega
    have hp2 : medP a b ≤ 1073741824 := by unfold medP; split <;> omega
    rw [hr] at HM
    rw [h] at HC
    clear hr h g1 g2 a0 c0 a1 c1
    generalize medP a b = P at *
    obtain ⟨r1, r2⟩ := prod_le c1' c2 (show -1073741824 ≤ b by omega) b2
    obtain ⟨r3, r4⟩ := prod_le hp1 hp2 (show -1073741824 ≤ d by omega) d2
    go_enter Try.func31, Try.ntmps31
    go_upto_if 17 with (first
      | (go_at_call 45; ((with_reducible refine (HC.out _).mono ?_); rintro e w1 ⟨rfl, hb⟩; obtain ⟨hc, hf⟩ := bcell hb; obtain ⟨hz0, hz1, hz2⟩ : w.heap.size < w1.heap.size ∧ w.heap.size + 1 < w1.heap.size ∧ w.heap.size + 1 + 1 < w1.heap.size := (by have := hb.size; (try simp at this); omega); have T1 := Lib.hid (Thr.start hb); clear hb))
      | fail)
    go_cut [] (fun wx => ∃ W : World, W = wx ∧ Hid (Thr w W P b c d))
    case first =>
      by_cases hb0 : b = 0
      · have HPP := Lib.hid (HP1.out hb0)
        subst hb0
        go_wp2_with fail
        go_meet
        exact ⟨_, rfl, by rw [HPP.out]; exact T1.out.set _⟩
      · have HPP := Lib.hid (HP2.out hb0)
        have hb1 : (b == 0) = false := by simpa using hb0
        go_wp2_with fail
        go_meet
        exact ⟨_, rfl, by rw [HPP.out]; exact T1.out⟩
    case rest =>
      obtain ⟨W, hW, HT⟩ := hcut
      subst hW
      clear T1 hc hf hz0 hz1 hz2 HP1 HP2
      have HB := Lib.hid HT.out.bel
      obtain ⟨⟨x0, x1⟩, xf⟩ := two_of_block HT.out.x
      obtain ⟨⟨y0, y1⟩, yf⟩ := two_of_block HT.out.y
      obtain ⟨⟨z0, z1⟩, zf⟩ := two_of_block HT.out.z
      have hz0 := lt_of_block HT.out.x
      have hz1 := lt_of_block HT.out.y
      have hz2 := lt_of_block HT.out.z
      clear HT
      by_cases k1 : c * b - P * d = 1
      · have HM3 := Lib.hid (HM.out.2.1 k1)
        have HM4 := Lib.hid (HM.out.2.2 k1)
        clear HM
        by_cases l1 : P + c < -1073741824
        · have e := HM3.out (.inl (inE_no (.inl l1)))
          cases e
          clear HM3 HM4
          go_wp2
          refine bodyPost_ret (v := .tuple #[.agg #[.int .i64 0, .int .i64 0], .int .i64 7]) ?_ rfl ⟨rfl, ?_⟩
          · simp [results, Try.results31, go_sem, *]
          · first | exact below_set2 HB.out (by omega) _ _ | exact (below_set2 HB.out (by omega) _ _).alloc (by simp; omega) _ | exact below_set2 (HB.out.alloc HB.out.size _) (by omega) _ _ | fail
        by_cases l2 : 1073741824 < P + c
        · have e := HM3.out (.inl (inE_no (.inr l2)))
          cases e
          clear HM3 HM4
          go_wp2
          refine bodyPost_ret (v := .tuple #[.agg #[.int .i64 0, .int .i64 0], .int .i64 7]) ?_ rfl ⟨rfl, ?_⟩
          · simp [results, Try.results31, go_sem, *]
          · first | exact below_set2 HB.out (by omega) _ _ | exact (below_set2 HB.out (by omega) _ _).alloc (by simp; omega) _ | exact below_set2 (HB.out.alloc HB.out.size _) (by omega) _ _ | fail
        by_cases l3 : 1073741824 < b + d
        · have e := HM3.out (.inr (inE_no (.inr l3)))
          cases e
          clear HM3 HM4
          go_wp2
          refine bodyPost_ret (v := .tuple #[.agg #[.int .i64 0, .int .i64 0], .int .i64 7]) ?_ rfl ⟨rfl, ?_⟩
          · simp [results, Try.results31, go_sem, *]
          · first | exact below_set2 HB.out (by omega) _ _ | exact (below_set2 HB.out (by omega) _ _).alloc (by simp; omega) _ | exact below_set2 (HB.out.alloc HB.out.size _) (by omega) _ _ | fail
        have e := HM4.out (by rw [inE_yes (n := P + c) (by omega) (by omega), inE_yes (n := b + d) (by omega) (by omega)]; simp)
        cases e
        clear HM3 HM4
        go_wp2
        refine bodyPost_ret (v := .tuple #[.agg #[.int .i64 (P + c), .int .i64 (b + d)], .int .i64 0]) ?_ rfl ⟨rfl, ?_⟩
        · simp [results, Try.results31, go_sem, *]
        · first | exact below_set2 HB.out (by omega) _ _ | exact (below_set2 HB.out (by omega) _ _).alloc (by simp; omega) _ | exact below_set2 (HB.out.alloc HB.out.size _) (by omega) _ _ | fail
      · have e := HM.out.1 k1
        cases e
        have k2 : (c * b - P * d != 1) = true := by simpa using k1
        clear HM
        go_wp2
        refine bodyPost_ret (v := .tuple #[.agg #[.int .i64 0, .int .i64 0], .int .i64 3]) ?_ rfl ⟨rfl, ?_⟩
        · simp [results, Try.results31, go_sem, *]
        · first | exact below_set2 HB.out (by omega) _ _ | exact (below_set2 HB.out (by omega) _ _).alloc (by simp; omega) _ | exact below_set2 (HB.out.alloc HB.out.size _) (by omega) _ _ | fail
  · rw [med_1 h] at hr
    cases hr
    rcases both_vals a b c d with h0 | h0 | h0
    · exact absurd h0 h
    all_goals
      rw [h0] at HC ⊢
      clear h h0
      go_enter Try.func31, Try.ntmps31
      go_wp2_with (first
        | (go_at_call 45; ((with_reducible refine (HC.out _).mono ?_); rintro e w1 ⟨rfl, hb⟩; obtain ⟨hc, hf⟩ := bcell hb; obtain ⟨hz0, hz1, hz2⟩ : w.heap.size < w1.heap.size ∧ w.heap.size + 1 < w1.heap.size ∧ w.heap.size + 1 + 1 < w1.heap.size := (by have := hb.size; (try simp at this); omega); have HB := Lib.hid ((below3 w _ _ _).trans (hb.mono (by simp; omega))); clear hb))
        | fail)
      first
        | (refine bodyPost_ret (v := .tuple #[.agg #[.int .i64 0, .int .i64 0], .int .i64 2]) ?_ rfl ⟨rfl, below_set2 HB.out (by omega) _ _⟩; simp [results, Try.results31, go_sem, *])
        | (refine bodyPost_ret (v := .tuple #[.agg #[.int .i64 0, .int .i64 0], .int .i64 3]) ?_ rfl ⟨rfl, below_set2 HB.out (by omega) _ _⟩; simp [results, Try.results31, go_sem, *])
end Go.Proofs.Ytbkombklfpjjpaa
