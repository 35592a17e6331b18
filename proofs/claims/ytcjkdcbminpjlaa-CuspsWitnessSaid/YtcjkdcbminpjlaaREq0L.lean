/- The contract of the reference's Equal0. -/
import Derived.Test.YtcjkdcbminpjlaaEq0L
import Derived.Deep.RegionHeld3
namespace Go.Proofs.Ytcjkdcbminpjlaa
open Go.RowKit
set_option linter.unusedVariables false

theorem ck_chain {n p q p' q' z : Int} (h : ckI n p q p' q' = z) : (¬ lvI n = 0 ∧ z = lvI n) ∨ (lvI n = 0 ∧ ¬ ck1 p q = 0 ∧ z = ck1 p q) ∨ (lvI n = 0 ∧ ck1 p q = 0 ∧ z = ck1 p' q') := by
  unfold ckI at h
  by_cases h1 : lvI n = 0
  · rw [if_pos h1] at h
    by_cases h2 : ck1 p q = 0
    · rw [if_pos h2] at h; exact .inr (.inr ⟨h1, h2, h.symm⟩)
    · rw [if_neg h2] at h; exact .inr (.inl ⟨h1, h2, h.symm⟩)
  · rw [if_neg h1] at h; exact .inl ⟨h1, h.symm⟩
/-- The boxes of the reference: x, y, the result. -/
structure RB (w wr : World) (p q p' q' : Int) : Prop where
  bx : Two wr w.heap.size p q
  by_ : Two wr (w.heap.size + 1) p' q'
  res : Four wr (w.heap.size + 2) 0 0 0 0
  bel : Below w.heap.size w wr
theorem RB.start (w : World) (p q p' q' : Int) : RB w (((w.alloc (.cells #[.int .i64 p, .int .i64 q] 23)).alloc (.cells #[.int .i64 p', .int .i64 q'] 23)).alloc (.cells #[.int .i64 0, .int .i64 0, .int .i64 0, .int .i64 0] 26)) p q p' q' :=
  ⟨((Two.at w rfl p q).alloc _).alloc _, (Two.at (w.alloc _) (by simp) p' q').alloc _, Four.at ((w.alloc _).alloc _) (by simp) 0 0 0 0, below3 _ _ _ _⟩
theorem RB.below {w wr w' : World} {p q p' q' : Int} (h : RB w wr p q p' q') (hb : Below wr.heap.size wr w') : RB w w' p q p' q' :=
  ⟨h.bx.below hb, h.by_.below hb, h.res.below hb, bel0 h.bel hb⟩
theorem RB.alloc {w wr : World} {p q p' q' : Int} (h : RB w wr p q p' q') (o : Obj) : RB w (wr.alloc o) p q p' q' := h.below (below1 _ _)
theorem RB.drew {w wr : World} {p q p' q' : Int} (h : RB w wr p q p' q') : RB w wr.drew p q p' q' := ⟨h.bx.drew, h.by_.drew, h.res.drew, h.bel.drew⟩
theorem RB.cells {w wr : World} {p q p' q' : Int} (h : RB w wr p q p' q') : (wr.cell? ⟨w.heap.size, 0, none⟩ = some (.int .i64 p) ∧ wr.cell? ⟨w.heap.size, 1, none⟩ = some (.int .i64 q)) ∧ (wr.cell? ⟨w.heap.size + 1, 0, none⟩ = some (.int .i64 p') ∧ wr.cell? ⟨w.heap.size + 1, 1, none⟩ = some (.int .i64 q')) := ⟨h.bx.cells, h.by_.cells⟩
set_option maxHeartbeats 3200000 in
set_option maxRecDepth 1000000 in
theorem requal0_err {n p q p' q' : Int} (w : World) (hK : ¬ ckI n p q p' q' = 0) : Calls Try.prog 8 #[.int .i64 n, .agg #[.int .i64 p, .int .i64 q], .agg #[.int .i64 p', .int .i64 q']] w fun e w' => e = .returned (.tuple #[.bool false, .agg #[.int .i64 0, .int .i64 0, .int .i64 0, .int .i64 0], .int .i64 (ckI n p q p' q')]) ∧ Below w.heap.size w w' := by
  obtain ⟨z, hz⟩ : ∃ z, ckI n p q p' q' = z := ⟨_, rfl⟩
  have hc := ck_chain hz
  rw [hz] at hK ⊢
  have HL := Lib.hid (fun W => level_any n W)
  have H1 := Lib.hid (fun W => rck_any p q W)
  have H2 := Lib.hid (fun W => rck_any p' q' W)
  clear hz
  have R0 := Lib.hid (RB.start w p q p' q')
  rcases hc with ⟨h1, h2⟩ | ⟨h1, h2, h3⟩ | ⟨h1, h2, h3⟩
  · rw [← h2] at HL
    clear h1 h2
    go_enter Try.func8, Try.ntmps8
    have hc := R0.out.res.cells
    obtain ⟨c1, c2, c3, c4⟩ := hc
    have f := R0.out.res.free
    go_wp2_with (first
      | (go_at_call 20; ((with_reducible refine (HL.out _).mono ?_); rintro e w1 ⟨rfl, rfl⟩))
      | fail)
    have HZ := R0.out.res.set 0 0 0 0
    have hc := HZ.cells
    obtain ⟨d1, d2, d3, d4⟩ := hc
    refine bodyPost_ret (v := .tuple #[.bool false, .agg #[.int .i64 0, .int .i64 0, .int .i64 0, .int .i64 0], .int .i64 z]) ?_ rfl ⟨rfl, ?_⟩
    · simp [results, Try.results8, go_sem, *]
    · first
        | exact below_set4 (below3 _ _ _ _) (by omega) _ _ _ _
        | exact below3 _ _ _ _
  · rw [h1] at HL
    rw [← h3] at H1
    clear h1 h2 h3
    go_enter Try.func8, Try.ntmps8
    go_wp2_with (first
      | (go_at_call 20; ((with_reducible refine (HL.out _).mono ?_); rintro e w1 ⟨rfl, rfl⟩))
      | (go_at_call 21; ((with_reducible refine (H1.out _).mono ?_); rintro e w1 ⟨rfl, hb⟩; have R1 := Lib.hid (R0.out.below hb); have f := R1.out.res.free; have hk := R1.out.res.cells; obtain ⟨k1, k2, k3, k4⟩ := hk; have hz := R1.out.res.lt; clear hb))
      | fail)
    have HZ := R1.out.res.set 0 0 0 0
    have hc := HZ.cells
    obtain ⟨d1, d2, d3, d4⟩ := hc
    refine bodyPost_ret (v := .tuple #[.bool false, .agg #[.int .i64 0, .int .i64 0, .int .i64 0, .int .i64 0], .int .i64 z]) ?_ rfl ⟨rfl, ?_⟩
    · simp [results, Try.results8, go_sem, *]
    · exact below_set4 R1.out.bel (by omega) _ _ _ _
  · rw [h1] at HL
    rw [h2] at H1
    rw [← h3] at H2
    clear h1 h2 h3
    go_enter Try.func8, Try.ntmps8
    go_wp2_with (first
      | (go_at_call 20; ((with_reducible refine (HL.out _).mono ?_); rintro e w1 ⟨rfl, rfl⟩))
      | (go_at_call 21; ((with_reducible refine (H1.out _).mono ?_); rintro e w1 ⟨rfl, hb⟩; have R1 := Lib.hid (R0.out.below hb); have hc := R1.out.cells; obtain ⟨⟨c1, c2⟩, c3, c4⟩ := hc; have hz := R1.out.res.lt; clear hb))
      | (go_at_call 21; ((with_reducible refine (H2.out _).mono ?_); rintro e w2 ⟨rfl, hb⟩; have R2 := Lib.hid (R1.out.below hb); clear c1 c2 c3 c4; have f := R2.out.res.free; have hk := R2.out.res.cells; obtain ⟨k1, k2, k3, k4⟩ := hk; have hz2 := R2.out.res.lt; clear hb))
      | fail)
    have HZ := R2.out.res.set 0 0 0 0
    have hc := HZ.cells
    obtain ⟨d1, d2, d3, d4⟩ := hc
    refine bodyPost_ret (v := .tuple #[.bool false, .agg #[.int .i64 0, .int .i64 0, .int .i64 0, .int .i64 0], .int .i64 z]) ?_ rfl ⟨rfl, ?_⟩
    · simp [results, Try.results8, go_sem, *]
    · exact below_set4 R2.out.bel (by omega) _ _ _ _
end Go.Proofs.Ytcjkdcbminpjlaa
