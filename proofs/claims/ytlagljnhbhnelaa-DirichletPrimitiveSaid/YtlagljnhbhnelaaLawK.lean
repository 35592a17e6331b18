/- What the laws' walks want: boxes of matrices and of cusps, kept through calls. -/
import Derived.Test.YtlagljnhbhnelaaMulL
import Derived.Test.YtlagljnhbhnelaaBoxL
import Derived.Deep.RegionHeld3
namespace Go.Proofs.Ytlagljnhbhnelaa
open Go.RowKit

section
variable {w W w' : World} {o p q r : Obj}
theorem bel0 (h : Below w.heap.size w W) (hb : Below W.heap.size W w') : Below w.heap.size w w' := h.trans (hb.mono h.size)
theorem bel1 (h : Below w.heap.size w W) (hb : Below (W.alloc o).heap.size (W.alloc o) w') : Below w.heap.size w w' := bel0 (bel0 h (below1 _ _)) hb
theorem bel2 (h : Below w.heap.size w W) (hb : Below ((W.alloc o).alloc p).heap.size ((W.alloc o).alloc p) w') : Below w.heap.size w w' := bel0 (bel0 h (below2 _ _ _)) hb
theorem bel3 (h : Below w.heap.size w W) (hb : Below (((W.alloc o).alloc p).alloc q).heap.size (((W.alloc o).alloc p).alloc q) w') : Below w.heap.size w w' := bel0 (bel0 h (below3 _ _ _ _)) hb
theorem bel4 (h : Below w.heap.size w W) (hb : Below ((((W.alloc o).alloc p).alloc q).alloc r).heap.size ((((W.alloc o).alloc p).alloc q).alloc r) w') : Below w.heap.size w w' := bel0 (bel0 h (below4 _ _ _ _ _)) hb
end
section
variable {w w' : World} {g : Nat} {a b c d : Int}
end
end Go.Proofs.Ytlagljnhbhnelaa
