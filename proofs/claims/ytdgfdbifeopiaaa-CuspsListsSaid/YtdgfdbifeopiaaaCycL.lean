/- The contract of cycles: the lengths of the cycles of a permutation. -/
import Derived.Test.YtdgfdbifeopiaaaAcM
import Derived.Test.YtdgfdbifeopiaaaClsM
namespace Go.Proofs.Ytdgfdbifeopiaaa
open Go.RowKit
set_option linter.unusedVariables false
set_option linter.unusedSimpArgs false

theorem inv2_id {f : Nat → Nat} {n : Nat} (hp : Prm f n) : Inv2 f (fun i => i) n := ⟨fun i hi => hi, fun i _ => rfl, fun i _ => rfl⟩
/-- The least points of the cycles, and the cycles' lengths. -/
def cyP (f : Nat → Nat) (n k : Nat) : List Nat := (cst (uB f (fun i => i) n) k).2
def cyN (f : Nat → Nat) (n : Nat) : List Nat := (cyP f n n).map (perO f n)
structure YV (w wr : World) (n : Nat) (C : Nat → Int) (v : Value) (L : List Nat) : Prop where
  row : wr.rowIs w.heap.size 4 n (fun j => .bool (decide (0 ≤ C j)))
  own : wr.ownsRow w.heap.size 3 1 v L.length (zs (iz L))
  bel : Below w.heap.size w wr
section
variable {w wr w' : World} {n : Nat} {C : Nat → Int} {v v' : Value} {L : List Nat}
theorem YV.ne (h : YV w wr n C v L) : some w.heap.size ≠ v.ownBlock := by
  intro e
  obtain ⟨_, hn | ⟨g', cap', cur, hv, _, hg2, _⟩⟩ := h.own
  · rw [hn.1] at e; cases e
  · subst hv
    injection e with e
    subst e
    obtain ⟨c, hc, _⟩ := h.row
    rw [hc] at hg2
    injection hg2 with h2
    injection h2 with _ h3
    exact absurd h3 (by decide)
theorem YV.congr (h : YV w wr n C v L) {D : Nat → Int} (e : ∀ j, j < n → C j = D j) : YV w wr n D v L := ⟨h.row.congr fun j hj => by rw [e j hj], h.own, h.bel⟩
theorem YV.set (h : YV w wr n C v L) (x m : Nat) : YV w (wr.setCell ⟨w.heap.size, x, none⟩ (.bool true)) n (fun j => if j = x then (m : Int) else C j) v L := by
  refine ⟨World.rowIs.congr (h.row.set x _) fun j _ => (by by_cases e : j = x <;> simp [e]), ?_, h.bel.setCell (Nat.le_refl _) _⟩
  exact h.own.kept (row := some w.heap.size) ⟨rfl, rfl, rfl, by simp, fun k _ hk => Below.heap_setCell wr ⟨w.heap.size, x, none⟩ _ k (fun e => hk (by rw [e]))⟩ (.inr fun e => h.ne e.symm)
theorem YV.push (h : YV w wr n C v L) {p : Nat} {o : Obj} (hown : w'.ownsRow w.heap.size 3 1 v' (L.length + 1) (zs (iz L) ++ [.int .i64 (p : Nat)])) (hg : (wr.alloc o).grownBy w' v.ownBlock) : YV w w' n C v' (L ++ [p]) := by
  have hlt := h.row.lt
  refine ⟨h.row.of_block ?_, by rw [List.length_append, iz_append, zs_append]; exact hown, ?_⟩
  · rw [hg.block _ (by simp; omega) h.ne, Below.heap_alloc _ _ _ hlt]
  · exact (h.bel.alloc h.bel.size o).grown hg (by have := h.bel.size; simp; omega) fun j hj => (h.own.lt j hj).1
end
theorem yv_start (w : World) (n : Nat) : YV w (w.alloc (.cells (madeCells #[.bool false] n) 4)) n (fun _ => -1) (.slice none 0 0) [] :=
  ⟨World.rowIs.congr (World.rowIs_made w (.bool false) n 4) fun j _ => by simp, World.ownsRow_nil _ _ _ _, below1 _ _⟩
end Go.Proofs.Ytdgfdbifeopiaaa
