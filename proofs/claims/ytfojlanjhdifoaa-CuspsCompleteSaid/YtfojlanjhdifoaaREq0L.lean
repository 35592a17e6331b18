/- The contract of the reference's Equal0. -/
import Derived.Test.YtfojlanjhdifoaaEq0L
import Derived.Deep.RegionHeld3
namespace Go.Proofs.Ytfojlanjhdifoaa
open Go.RowKit
set_option linter.unusedVariables false

theorem ck_chain {n p q p' q' z : Int} (h : ckI n p q p' q' = z) : (¬ lvI n = 0 ∧ z = lvI n) ∨ (lvI n = 0 ∧ ¬ ck1 p q = 0 ∧ z = ck1 p q) ∨ (lvI n = 0 ∧ ck1 p q = 0 ∧ z = ck1 p' q') := by
  unfold ckI at h
  by_cases h1 : lvI n = 0
  · rw [if_pos h1] at h
    by_cases h2 : ck1 p q = 0
    · rw [if_pos h2] at h; exact .inr (.inr ⟨h1, h2, h.symm⟩)
    · rw [if_neg h2] at h; exact .inr (.inl ⟨h1, h2, h.symm⟩)
  · rw [if_neg h1] at h; exact .inl ⟨h1, h.symm⟩
/-- The boxes of the reference: x, y, the result. -/
structure RB (w wr : World) (p q p' q' : Int) : Prop where
  bx : Two wr w.heap.size p q
  by_ : Two wr (w.heap.size + 1) p' q'
  res : Four wr (w.heap.size + 2) 0 0 0 0
  bel : Below w.heap.size w wr
theorem RB.start (w : World) (p q p' q' : Int) : RB w (((w.alloc (.cells #[.int .i64 p, .int .i64 q] 23)).alloc (.cells #[.int .i64 p', .int .i64 q'] 23)).alloc (.cells #[.int .i64 0, .int .i64 0, .int .i64 0, .int .i64 0] 39)) p q p' q' :=
  ⟨((Two.at w rfl p q).alloc _).alloc _, (Two.at (w.alloc _) (by simp) p' q').alloc _, Four.at ((w.alloc _).alloc _) (by simp) 0 0 0 0, below3 _ _ _ _⟩
theorem RB.below {w wr w' : World} {p q p' q' : Int} (h : RB w wr p q p' q') (hb : Below wr.heap.size wr w') : RB w w' p q p' q' :=
  ⟨h.bx.below hb, h.by_.below hb, h.res.below hb, bel0 h.bel hb⟩
theorem RB.alloc {w wr : World} {p q p' q' : Int} (h : RB w wr p q p' q') (o : Obj) : RB w (wr.alloc o) p q p' q' := h.below (below1 _ _)
theorem RB.drew {w wr : World} {p q p' q' : Int} (h : RB w wr p q p' q') : RB w wr.drew p q p' q' := ⟨h.bx.drew, h.by_.drew, h.res.drew, h.bel.drew⟩
theorem RB.cells {w wr : World} {p q p' q' : Int} (h : RB w wr p q p' q') : (wr.cell? ⟨w.heap.size, 0, none⟩ = some (.int .i64 p) ∧ wr.cell? ⟨w.heap.size, 1, none⟩ = some (.int .i64 q)) ∧ (wr.cell? ⟨w.heap.size + 1, 0, none⟩ = some (.int .i64 p') ∧ wr.cell? ⟨w.heap.size + 1, 1, none⟩ = some (.int .i64 q')) := ⟨h.bx.cells, h.by_.cells⟩
end Go.Proofs.Ytfojlanjhdifoaa
