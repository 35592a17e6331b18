/- The world within containsPrincipal, and its closure's contract in it. -/
import Derived.Test.YtjofmgnggeoimaaCgM
namespace Go.Proofs.Ytjofmgnggeoimaa
open Go.RowKit
open Go.Maps (Keyed)
set_option linter.unusedVariables false

/-- The cells of a list of matrices. -/
def ks (K : List K4) : List Value := K.flatMap fun x => [.int .i64 x.1, .int .i64 x.2.1, .int .i64 x.2.2.1, .int .i64 x.2.2.2]
theorem ks_push (K : List K4) (x : K4) : ks (K ++ [x]) = ks K ++ [.int .i64 x.1, .int .i64 x.2.1, .int .i64 x.2.2.1, .int .i64 x.2.2.2] := by simp [ks]
/-- The boxes of containsPrincipal called in w: the action (w), the list's box (lb), the map (mb), its box (bm). -/
structure CGV (w wr : World) (bm lb mb : Nat) (xs : Array Value) (s : List K4 × List Nat) (vl : Value) : Prop where
  x : wr.heap[w.heap.size]? = some (.cells xs 24 (0, 0))
  l : wr.heap[lb]? = some (.cells #[vl] 103 (0, 0))
  m : wr.heap[bm]? = some (.cells #[.map (some (mb))] 104 (0, 0))
  own : ∃ D, IsMpC wr (mb) s.1.length D ∧ MDV D s.1 s.2
  row : wr.ownsRow w.heap.size 102 4 vl s.1.length (ks s.1)
  bel : Below w.heap.size w wr
  glb : w.heap.size ≤ lb
  gmb : w.heap.size ≤ mb
section
variable {w wr w' : World} {bm lb mb : Nat} {xs : Array Value} {s : List K4 × List Nat} {vl : Value}
theorem CGV.drew (h : CGV w wr bm lb mb xs s vl) : CGV w wr.drew bm lb mb xs s vl := ⟨h.x, h.l, h.m, by obtain ⟨D, h1, h2⟩ := h.own; exact ⟨D, map_keep h1 rfl, h2⟩, own_low h.row fun _ _ => rfl, h.bel.drew, h.glb, h.gmb⟩
theorem CGV.alloc (h : CGV w wr bm lb mb xs s vl) (o : Obj) : CGV w (wr.alloc o) bm lb mb xs s vl := ⟨block_alloc h.x _, block_alloc h.l _, block_alloc h.m _, by obtain ⟨D, h1, h2⟩ := h.own; exact ⟨D, h1.alloc _, h2⟩, h.row.alloc _, h.bel.alloc h.bel.size _, h.glb, h.gmb⟩
/-- The closure on a matrix that agrees: the state goes on, and every box of another type, and every younger one of the matrices' type, stays. -/
theorem cg_agree {y : K4} {j : Nat} (h : CGV w wr bm lb mb xs s vl) (hy : wf4 y) (hj : j ≤ 1152) (hK : s.1.length ≤ 100000) (ha : (cpAdd s y j).2.getD ((cpAdd s y j).1.idxOf y) 0 = j) :
    Calls Try.prog 73 #[.agg #[.int .i64 y.1, .int .i64 y.2.1, .int .i64 y.2.2.1, .int .i64 y.2.2.2], .int .i64 (j : Nat), .pointer (some ⟨bm, 0, none⟩), .pointer (some ⟨lb, 0, none⟩)] wr fun e w' => e = .returned (.bool true) ∧
      ∃ vl', CGV w w' bm lb mb xs (cpAdd s y j) vl' ∧ wr.heap.size ≤ w'.heap.size ∧ (vl'.ownBlock = vl.ownBlock ∨ ∃ g, vl'.ownBlock = some g ∧ wr.heap.size ≤ g) ∧ ∀ i, i < wr.heap.size → i ≠ mb → i ≠ lb → some i ≠ vl.ownBlock → w'.heap[i]? = wr.heap[i]? := by
  obtain ⟨D, hO, hD⟩ := h.own
  obtain ⟨a, b, c, d⟩ := y
  cases hc : s.1.contains (a, b, c, d) with
  | true =>
    rw [cpAdd_old hc] at ha ⊢
    refine (agree_old (bl := lb) wr h.m hO hD hy hc ha).mono ?_
    rintro e w' ⟨rfl, rfl⟩
    exact ⟨rfl, vl, h.alloc _, by simp, .inl rfl, fun i hi _ _ _ => Below.heap_alloc _ _ _ hi⟩
  | false =>
    rw [cpAdd_new hc] at ha ⊢
    have hsz := h.bel.size
    refine (agree_new wr h.m h.l h.row hK hK hsz hO hD hy hc hj).mono ?_
    rintro e w' ⟨rfl, v', hA⟩
    refine ⟨rfl, v', ⟨?_, hA.l, ?_, ⟨_, ?_, hD.put hy hc⟩, ?_, ⟨hA.os.trans h.bel.os, hA.tape.trans h.bel.tape, hA.out.trans h.bel.output, Nat.le_trans hsz hA.size, fun i hi => ?_⟩, h.glb, h.gmb⟩, hA.size, hA.at_, hA.rest⟩
    · exact (hA.rest _ (lt_of_block h.x) (map_ne hO h.x) (fun e => by have := h.x; rw [e, h.l] at this; simp at this) (row_neC h.row h.x (by decide))).trans h.x
    · exact (hA.rest _ (lt_of_block h.m) (map_ne hO h.m) (fun e => by have := h.m; rw [e, h.l] at this; simp at this) (row_neC h.row h.m (by decide))).trans h.m
    · show IsMpC w' _ (s.1 ++ [(a, b, c, d)]).length _
      rw [List.length_append]
      exact hA.own
    · show w'.ownsRow _ _ 4 v' (s.1 ++ [(a, b, c, d)]).length (ks (s.1 ++ [(a, b, c, d)]))
      rw [List.length_append, ks_push]
      exact hA.row
    · have g1 := h.glb
      have g2 := h.gmb
      refine (hA.rest i (by omega) (by omega) (by omega) ?_).trans (h.bel.block i hi)
      intro e
      have := (row_lt h.row e.symm).1
      omega
end
/-- The loop's first world. -/
theorem cg_start {w W1 w2 : World} {xs : Array Value} {D : DataW Unit} (hX : W1.heap[w.heap.size]? = some (.cells xs 24 (0, 0))) (hB : Below w.heap.size w W1) (hO : IsMpC w2 (W1.heap.size + 1 + 1) 1 D) (hD : MDV D [(1, 0, 0, 1)] [0])
    (hg : (((W1.alloc (.cells #[.int .i64 1, .int .i64 0, .int .i64 0, .int .i64 1] 102)).alloc (.cells #[.slice (some ⟨W1.heap.size, 0, none⟩) 1 1] 103)).alloc (.map #[] 0)).grownBy w2 (some (W1.heap.size + 1 + 1))) :
    CGV w (w2.alloc (.cells #[.map (some (W1.heap.size + 1 + 1))] 104)) w2.heap.size (W1.heap.size + 1) (W1.heap.size + 1 + 1) xs ([(1, 0, 0, 1)], [0]) (.slice (some ⟨W1.heap.size, 0, none⟩) 1 1) := by
  have hs1 := hB.size
  have hs2 := hg.size
  have hzz : (((W1.alloc (.cells #[.int .i64 1, .int .i64 0, .int .i64 0, .int .i64 1] 102)).alloc (.cells #[.slice (some ⟨W1.heap.size, 0, none⟩) 1 1] 103)).alloc (.map #[] 0)).heap.size = W1.heap.size + 3 := by simp
  have go : ∀ {g : Nat} {o : Obj}, (((W1.alloc (.cells #[.int .i64 1, .int .i64 0, .int .i64 0, .int .i64 1] 102)).alloc (.cells #[.slice (some ⟨W1.heap.size, 0, none⟩) 1 1] 103)).alloc (.map #[] 0)).heap[g]? = some o → g ≠ W1.heap.size + 1 + 1 → w2.heap[g]? = some o := fun hc hne =>
    (hg.block _ (lt_of_block hc) (by simpa using hne)).trans hc
  have lx := lt_of_block hX
  have hx := go (block_alloc (block_alloc (block_alloc hX _) _) _) (by omega)
  have hb := go (block_alloc (block_alloc (heap_alloc_new W1 (.cells #[.int .i64 1, .int .i64 0, .int .i64 0, .int .i64 1] 102)) _) _) (by omega)
  have hl0 := heap_alloc_new (W1.alloc (.cells #[.int .i64 1, .int .i64 0, .int .i64 0, .int .i64 1] 102)) (.cells #[.slice (some ⟨W1.heap.size, 0, none⟩) 1 1] 103)
  rw [show (W1.alloc (.cells #[.int .i64 1, .int .i64 0, .int .i64 0, .int .i64 1] 102)).heap.size = W1.heap.size + 1 by simp] at hl0
  have hl := go (block_alloc hl0 (.map #[] 0)) (by omega)
  refine ⟨block_alloc hx _, block_alloc hl _, heap_alloc_new w2 _, ⟨D, hO.alloc _, hD⟩, ⟨rfl, .inr ⟨W1.heap.size, 1, _, rfl, hs1, block_alloc hb _, Nat.le_refl 1, by unfold maxLen; omega, rfl, rfl⟩⟩, ?_, by omega, by omega⟩
  have h3 : Below w.heap.size w w2 := ⟨hg.os.trans hB.os, hg.tape.trans hB.tape, hg.output.trans hB.output, by omega, fun i hi => (hg.block i (by omega) (by simp; omega)).trans (((below1 _ _).block i (by simp; omega)).trans (((below2 W1 _ _).block i (by omega)).trans (hB.block i hi)))⟩
  exact h3.alloc h3.size _
end Go.Proofs.Ytjofmgnggeoimaa
