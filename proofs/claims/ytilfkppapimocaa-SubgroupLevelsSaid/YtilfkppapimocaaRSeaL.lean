/- The contract of the reference's breadth-first search. -/
import Derived.Test.YtilfkppapimocaaSeaL
namespace Go.Proofs.Ytilfkppapimocaa
open Go.RowKit
set_option linter.unusedVariables false
set_option linter.unusedSimpArgs false

structure VR (w wr : World) (xs : Array Value) (bb n : Nat) (v : Value) (L : List Nat) : Prop where
  sv : SV w wr bb n v L
  x : wr.heap[w.heap.size]? = some (.cells xs 47 (0, 0))
theorem VR.drewN {w wr : World} {xs : Array Value} {bb n : Nat} {v : Value} {L : List Nat} (h : VR w wr xs bb n v L) (m : Nat) : VR w (wr.drewN m) xs bb n v L := ⟨h.sv.drewN m, h.x⟩
theorem VR.push {w wr w' : World} {xs : Array Value} {bb n x : Nat} {v v' : Value} {L : List Nat} {o : Obj} (h : VR w wr xs bb n v L) (hx : x ∉ L) (hown : w'.ownsRow w.heap.size 3 1 v' (L.length + 1) (zs (iz L) ++ [.int .i64 (x : Nat)])) (hg : ((wr.setCell ⟨bb, x, none⟩ (.bool true)).alloc o).grownBy w' v.ownBlock) : VR w w' xs bb n v' (vis L x) := by
  refine ⟨h.sv.push hx hown hg, ?_⟩
  have hkb : w.heap.size ≠ bb := by
    intro e
    obtain ⟨c', hc', _⟩ := h.sv.row
    rw [← e, h.x] at hc'
    injection hc' with hc'
    injection hc' with _ h3
    exact absurd h3 (by decide)
  have hc1 := set_ne (j := x) h.x hkb (.bool true)
  have hk := lt_of_block hc1
  refine (hg.block _ (by simp at hk ⊢; omega) ?_).trans (block_alloc hc1 o)
  intro e
  obtain ⟨_, hn | ⟨g', cap', cur, hv, _, hg2, _⟩⟩ := h.sv.own
  · rw [hn.1] at e; cases e
  · subst hv
    injection e with e
    subst e
    rw [h.x] at hg2
    injection hg2 with h2
    injection h2 with _ h3
    exact absurd h3 (by decide)
def rs3 (w : World) (a b : Value) (n : Nat) : World := (w.alloc (.cells #[a, b] 47)).alloc (.cells (madeCells #[.bool false] n) 4)
theorem rs3_row (w : World) (a b : Value) (n : Nat) : (rs3 w a b n).rowIs (w.heap.size + 1) 4 n (fun _ => .bool false) := by
  have hr := World.rowIs_made (w.alloc (.cells #[a, b] 47)) (.bool false) n 4
  simpa [rs3] using hr
theorem rs3_vr (w : World) (a b : Value) (i n : Nat) : VR w (((rs3 w a b n).setCell ⟨w.heap.size + 1, i, none⟩ (.bool true)).alloc (.cells #[.int .i64 (i : Nat)] 3)) #[a, b] (w.heap.size + 1) n (.slice (some ⟨w.heap.size + 1 + 1, 0, none⟩) 1 1) [i] := by
  have k0 : (rs3 w a b n).heap[w.heap.size]? = some (.cells #[a, b] 47 (0, 0)) := block_alloc (heap_alloc_new _ _) _
  have ks : (rs3 w a b n).heap.size = w.heap.size + 1 + 1 := by simp [rs3]
  have kb : Below w.heap.size w (rs3 w a b n) := below2 w _ _
  have hr2 : ((rs3 w a b n).setCell ⟨w.heap.size + 1, i, none⟩ (.bool true)).rowIs (w.heap.size + 1) 4 n (fun j => .bool (decide (j ∈ [i]))) := by
    refine World.rowIs.congr (World.rowIs.set (rs3_row w a b n) i (.bool true)) fun j _ => ?_
    by_cases e : j = i
    · simp [e]
    · simp [e]
  have k1 : (((rs3 w a b n).setCell ⟨w.heap.size + 1, i, none⟩ (.bool true)).alloc (.cells #[.int .i64 (i : Nat)] 3)).heap[w.heap.size + 1 + 1]? = some (.cells #[.int .i64 (i : Nat)] 3 (0, 0)) := by
    have := heap_alloc_new ((rs3 w a b n).setCell ⟨w.heap.size + 1, i, none⟩ (.bool true)) (.cells #[.int .i64 (i : Nat)] 3)
    simpa [ks] using this
  exact ⟨⟨⟨rfl, .inr ⟨w.heap.size + 1 + 1, 1, _, rfl, by omega, k1, by simp, by unfold maxLen; omega, rfl, rfl⟩⟩, hr2.alloc _, (kb.setCell (by show _ ≤ w.heap.size + 1; omega) _).alloc (by simp [ks]; omega) _, by omega⟩, block_alloc (set_ne k0 (by omega) _) _⟩
/-- The list behind j of the round's two steps. -/
def lst2 (g f : Nat → Nat) (L : List Nat) (x : Nat) : Nat → List Nat
  | 0 => L
  | 1 => vis L (g x)
  | _ => vis (vis L (g x)) (f x)
def to2 (g f : Nat → Nat) (x : Nat) : Nat → Nat
  | 0 => g x
  | _ => f x
theorem lst2_step (g f : Nat → Nat) (L : List Nat) (x : Nat) : ∀ j, j < 2 → lst2 g f L x (j + 1) = vis (lst2 g f L x j) (to2 g f x j)
  | 0, _ => rfl
  | 1, _ => rfl
theorem lst2_len (g f : Nat → Nat) (L : List Nat) (x : Nat) : ∀ j, j ≤ 2 → L.length ≤ (lst2 g f L x j).length ∧ (lst2 g f L x j).length ≤ (vis (vis L (g x)) (f x)).length
  | 0, _ => ⟨Nat.le_refl _, Nat.le_trans (vis_len _ _) (vis_len _ _)⟩
  | 1, _ => ⟨vis_len _ _, vis_len _ _⟩
  | 2, _ => ⟨Nat.le_trans (vis_len _ _) (vis_len _ _), Nat.le_refl _⟩
theorem lst2_get {g f : Nat → Nat} {L : List Nat} {x k : Nat} (hk : k < L.length) : ∀ j, j ≤ 2 → (lst2 g f L x j).getD k 0 = L.getD k 0
  | 0, _ => rfl
  | 1, _ => vis_get hk
  | 2, _ => (vis_get (Nat.lt_of_lt_of_le hk (vis_len _ _))).trans (vis_get hk)
end Go.Proofs.Ytilfkppapimocaa
