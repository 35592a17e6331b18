/- Boxes of one and of several cells in memory, and what keeps them. -/
import Derived.Test.YtlagljnhbhnelaaListL
import Derived.OwnWalk
namespace Go.Proofs.Ytlagljnhbhnelaa
open Go.RowKit

theorem Try.infoInt : (Try.prog.info? 3).map (fun i => (i.zero, i.size, i.bytes)) = some (some (.int .i64 0), 1, 8) := by kernel_rfl
theorem four_of_block {w : World} {g : Nat} {a b c d : Value} {t : TypeId} (h : w.heap[g]? = some (.cells #[a, b, c, d] t (0, 0))) :
    (w.cell? ⟨g, 0, none⟩ = some a ∧ w.cell? ⟨g, 1, none⟩ = some b ∧ w.cell? ⟨g, 2, none⟩ = some c ∧ w.cell? ⟨g, 3, none⟩ = some d) ∧ (∀ j, w.frozen? ⟨g, j, none⟩ = false) :=
  ⟨⟨by rw [cell_of_row w g 0 _ t _ h]; rfl, by rw [cell_of_row w g 1 _ t _ h]; rfl, by rw [cell_of_row w g 2 _ t _ h]; rfl, by rw [cell_of_row w g 3 _ t _ h]; rfl⟩, fun j => frozen_of_row w g j _ t h⟩
theorem two_of_block {w : World} {g : Nat} {a b : Value} {t : TypeId} (h : w.heap[g]? = some (.cells #[a, b] t (0, 0))) :
    (w.cell? ⟨g, 0, none⟩ = some a ∧ w.cell? ⟨g, 1, none⟩ = some b) ∧ (∀ j, w.frozen? ⟨g, j, none⟩ = false) :=
  ⟨⟨by rw [cell_of_row w g 0 _ t _ h]; rfl, by rw [cell_of_row w g 1 _ t _ h]; rfl⟩, fun j => frozen_of_row w g j _ t h⟩
theorem four_set {w : World} {g : Nat} {a b c d : Value} {t : TypeId} (h : w.heap[g]? = some (.cells #[a, b, c, d] t (0, 0))) (a' b' c' d' : Value) :
    ((((w.setCell ⟨g, 0, none⟩ a').setCell ⟨g, 1, none⟩ b').setCell ⟨g, 2, none⟩ c').setCell ⟨g, 3, none⟩ d').heap[g]? = some (.cells #[a', b', c', d'] t (0, 0)) :=
  heap_setCell_same _ g 3 #[a', b', c', d] t d' (heap_setCell_same _ g 2 #[a', b', c, d] t c' (heap_setCell_same _ g 1 #[a', b, c, d] t b' (heap_setCell_same _ g 0 #[a, b, c, d] t a' h)))
theorem two_set1 {w : World} {g : Nat} {a b : Value} {t : TypeId} (h : w.heap[g]? = some (.cells #[a, b] t (0, 0))) (b' : Value) :
    (w.setCell ⟨g, 1, none⟩ b').heap[g]? = some (.cells #[a, b'] t (0, 0)) := heap_setCell_same _ g 1 #[a, b] t b' h
theorem two_set0 {w : World} {g : Nat} {a b : Value} {t : TypeId} (h : w.heap[g]? = some (.cells #[a, b] t (0, 0))) (a' : Value) :
    (w.setCell ⟨g, 0, none⟩ a').heap[g]? = some (.cells #[a', b] t (0, 0)) := heap_setCell_same _ g 0 #[a, b] t a' h
theorem set_ne {w : World} {g k j : Nat} {o : Option Obj} (h : w.heap[k]? = o) (hn : k ≠ g) (v : Value) : (w.setCell ⟨g, j, none⟩ v).heap[k]? = o := (Below.heap_setCell w ⟨g, j, none⟩ v k hn).trans h
theorem set4_ne {w : World} {g k : Nat} {o : Option Obj} (h : w.heap[k]? = o) (hn : k ≠ g) (a b c d : Value) :
    ((((w.setCell ⟨g, 0, none⟩ a).setCell ⟨g, 1, none⟩ b).setCell ⟨g, 2, none⟩ c).setCell ⟨g, 3, none⟩ d).heap[k]? = o := set_ne (set_ne (set_ne (set_ne h hn _) hn _) hn _) hn _
theorem own_low {w w' : World} {b : Nat} {e : TypeId} {size : Nat} {v : Value} {n : Nat} {xs : List Value} (h : w.ownsRow b e size v n xs) (hk : ∀ k, b ≤ k → w'.heap[k]? = w.heap[k]?) : w'.ownsRow b e size v n xs := by
  obtain ⟨h1, h2 | ⟨g, cap, cur, hv, hb, hg, hn, hc, hs, ht⟩⟩ := h
  · exact ⟨h1, .inl h2⟩
  · exact ⟨h1, .inr ⟨g, cap, cur, hv, hb, (hk g hb).trans hg, hn, hc, hs, ht⟩⟩
theorem own_set {w : World} {b g j : Nat} {e : TypeId} {size : Nat} {v : Value} {n : Nat} {xs : List Value} (h : w.ownsRow b e size v n xs) (hg : g < b) (u : Value) : (w.setCell ⟨g, j, none⟩ u).ownsRow b e size v n xs :=
  own_low h fun k hk => Below.heap_setCell w ⟨g, j, none⟩ u k (by show k ≠ g; omega)
theorem own_set4 {w : World} {b g : Nat} {e : TypeId} {size : Nat} {v : Value} {n : Nat} {xs : List Value} (h : w.ownsRow b e size v n xs) (hg : g < b) (u1 u2 u3 u4 : Value) :
    ((((w.setCell ⟨g, 0, none⟩ u1).setCell ⟨g, 1, none⟩ u2).setCell ⟨g, 2, none⟩ u3).setCell ⟨g, 3, none⟩ u4).ownsRow b e size v n xs := own_set (own_set (own_set (own_set h hg _) hg _) hg _) hg _
theorem own_below {w w' : World} {b : Nat} {e : TypeId} {size : Nat} {v : Value} {n : Nat} {xs : List Value} (h : w.ownsRow b e size v n xs) (hb : Below w.heap.size w w') : w'.ownsRow b e size v n xs :=
  h.kept (row := none) ⟨hb.os, hb.tape, hb.output, hb.size, fun k hk _ => hb.block k hk⟩ (by cases v.ownBlock <;> simp)
theorem own_len {w : World} {b : Nat} {e : TypeId} {size : Nat} {v : Value} {n : Nat} {xs : List Value} (h : w.ownsRow b e size v n xs) : ∃ A c, v = .slice A n c := by
  rcases h.2 with ⟨rfl, rfl⟩ | ⟨g, cap, cur, rfl, _⟩
  · exact ⟨none, 0, rfl⟩
  · exact ⟨_, _, rfl⟩
theorem own_base {w : World} {B B' : Nat} {e : TypeId} {size : Nat} {v : Value} {n : Nat} {xs : List Value} (hB : B' ≤ B) (h : w.ownsRow B e size v n xs) : w.ownsRow B' e size v n xs := by
  obtain ⟨h1, h2 | ⟨g, cap, cur, hv, hb, hg⟩⟩ := h
  · exact ⟨h1, .inl h2⟩
  · exact ⟨h1, .inr ⟨g, cap, cur, hv, by omega, hg⟩⟩
theorem block_below {w w' : World} {g : Nat} {o : Obj} (h : w.heap[g]? = some o) (hb : Below w.heap.size w w') : w'.heap[g]? = some o := (hb.block g (lt_of_block h)).trans h
theorem block_alloc {w : World} {g : Nat} {o : Obj} (h : w.heap[g]? = some o) (p : Obj) : (w.alloc p).heap[g]? = some o := block_below h (below1 w p)
/-- Behind an append to an own row, what lies below it and is no part of it is as it was. -/
theorem block_grown {w w' : World} {g b : Nat} {o : Obj} {e : TypeId} {size : Nat} {v : Value} {n : Nat} {xs : List Value} {p : Obj} (h : w.heap[g]? = some o) (hown : w.ownsRow b e size v n xs) (hgb : g < b) (hg : (w.alloc p).grownBy w' v.ownBlock) : w'.heap[g]? = some o := by
  have h1 : (w.alloc p).heap[g]? = some o := block_alloc h p
  refine (hg.block g (lt_of_block h1) ?_).trans h1
  intro k
  rcases hown.2 with ⟨rfl, _⟩ | ⟨g', cap, cur, rfl, hb, _⟩
  · cases k
  · simp [Value.ownBlock] at k
    omega
end Go.Proofs.Ytlagljnhbhnelaa
