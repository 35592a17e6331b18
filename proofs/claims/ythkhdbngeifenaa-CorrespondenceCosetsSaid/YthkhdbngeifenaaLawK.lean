/- What the laws' walks want: boxes of matrices and of cusps, kept through calls. -/
import Derived.Test.YthkhdbngeifenaaMulL
import Derived.Test.YthkhdbngeifenaaBoxL
import Derived.Deep.RegionHeld3
namespace Go.Proofs.Ythkhdbngeifenaa
open Go.RowKit

section
variable {w W w' : World} {o p q r : Obj}
theorem bel0 (h : Below w.heap.size w W) (hb : Below W.heap.size W w') : Below w.heap.size w w' := h.trans (hb.mono h.size)
theorem bel1 (h : Below w.heap.size w W) (hb : Below (W.alloc o).heap.size (W.alloc o) w') : Below w.heap.size w w' := bel0 (bel0 h (below1 _ _)) hb
theorem bel2 (h : Below w.heap.size w W) (hb : Below ((W.alloc o).alloc p).heap.size ((W.alloc o).alloc p) w') : Below w.heap.size w w' := bel0 (bel0 h (below2 _ _ _)) hb
theorem bel3 (h : Below w.heap.size w W) (hb : Below (((W.alloc o).alloc p).alloc q).heap.size (((W.alloc o).alloc p).alloc q) w') : Below w.heap.size w w' := bel0 (bel0 h (below3 _ _ _ _)) hb
theorem bel4 (h : Below w.heap.size w W) (hb : Below ((((W.alloc o).alloc p).alloc q).alloc r).heap.size ((((W.alloc o).alloc p).alloc q).alloc r) w') : Below w.heap.size w w' := bel0 (bel0 h (below4 _ _ _ _ _)) hb
end
/-- Block g holds the matrix (a b; c d). -/
def Four (w : World) (g : Nat) (a b c d : Int) : Prop := w.heap[g]? = some (.cells #[.int .i64 a, .int .i64 b, .int .i64 c, .int .i64 d] 40 (0, 0))
section
variable {w w' : World} {g : Nat} {a b c d : Int}
theorem Four.below (h : Four w g a b c d) (hb : Below w.heap.size w w') : Four w' g a b c d := block_below h hb
theorem Four.alloc (h : Four w g a b c d) (o : Obj) : Four (w.alloc o) g a b c d := block_alloc h o
theorem Four.drew (h : Four w g a b c d) : Four w.drew g a b c d := h
theorem Four.drewN (h : Four w g a b c d) (n : Nat) : Four (w.drewN n) g a b c d := h
theorem Four.at (w : World) {g : Nat} (hg : g = w.heap.size) (a b c d : Int) : Four (w.alloc (.cells #[.int .i64 a, .int .i64 b, .int .i64 c, .int .i64 d] 40)) g a b c d := by subst hg; exact heap_alloc_new w _
theorem Four.set (h : Four w g a b c d) (a' b' c' d' : Int) : Four ((((w.setCell ⟨g, 0, none⟩ (.int .i64 a')).setCell ⟨g, 1, none⟩ (.int .i64 b')).setCell ⟨g, 2, none⟩ (.int .i64 c')).setCell ⟨g, 3, none⟩ (.int .i64 d')) g a' b' c' d' := four_set h _ _ _ _
theorem Four.other (h : Four w g a b c d) {k : Nat} (hk : g ≠ k) (v0 v1 v2 v3 : Value) : Four ((((w.setCell ⟨k, 0, none⟩ v0).setCell ⟨k, 1, none⟩ v1).setCell ⟨k, 2, none⟩ v2).setCell ⟨k, 3, none⟩ v3) g a b c d := set4_ne h hk _ _ _ _
theorem Four.cells (h : Four w g a b c d) : w.cell? ⟨g, 0, none⟩ = some (.int .i64 a) ∧ w.cell? ⟨g, 1, none⟩ = some (.int .i64 b) ∧ w.cell? ⟨g, 2, none⟩ = some (.int .i64 c) ∧ w.cell? ⟨g, 3, none⟩ = some (.int .i64 d) := (four_of_block h).1
theorem Four.lt (h : Four w g a b c d) : g < w.heap.size := lt_of_block h
theorem Four.free (h : Four w g a b c d) : ∀ j, w.frozen? ⟨g, j, none⟩ = false := (four_of_block h).2
end
end Go.Proofs.Ythkhdbngeifenaa
