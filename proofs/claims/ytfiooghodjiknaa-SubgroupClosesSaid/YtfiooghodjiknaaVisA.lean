/- The contract of search's visit in one piece: the list of keys goes on, the answer is the key's place. -/
import Derived.Test.YtfiooghodjiknaaVisL
namespace Go.Proofs.Ytfiooghodjiknaa
open Go.RowKit
open Go.Maps (Keyed)
set_option linter.unusedVariables false

/-- What visit reads and writes: the group, the map, the list. -/
structure VS (w : World) (base bg bm bl bM : Nat) (k n : Int) (K : List K4) (v : Value) (xs : List Value) : Prop where
  g : w.heap[bg]? = some (.cells #[.int .i64 k, .int .i64 n] 24 (0, 0))
  m : w.heap[bm]? = some (.cells #[.map (some bM)] 93 (0, 0))
  l : w.heap[bl]? = some (.cells #[v] 52 (0, 0))
  own : ∃ D, IsMp w bM K.length D ∧ MD D K
  row : w.ownsRow base 26 4 v K.length xs
  bs : base ≤ w.heap.size
  len : K.length ≤ 100000
/-- What visit leaves alone. -/
structure FR (w w' : World) (bl bM : Nat) (v v' : Value) : Prop where
  at_ : v'.ownBlock = v.ownBlock ∨ ∃ g, v'.ownBlock = some g ∧ w.heap.size ≤ g
  grown : w.heap.size ≤ w'.heap.size
  os : w'.os = w.os
  tape : w'.tape = w.tape
  out : w'.output = w.output
  rest : ∀ i, i < w.heap.size → i ≠ bM → i ≠ bl → some i ≠ v.ownBlock → w'.heap[i]? = w.heap[i]?
section
variable {w w' : World} {base bg bm bl bM : Nat} {k n : Int} {K : List K4} {v v' : Value} {xs : List Value}
theorem VS.below (h : VS w base bg bm bl bM k n K v xs) (hb : Below w.heap.size w w') : VS w' base bg bm bl bM k n K v xs := by
  obtain ⟨D, h1, h2⟩ := h.own
  exact ⟨block_below h.g hb, block_below h.m hb, block_below h.l hb, ⟨D, map_below h1 hb, h2⟩, row_below h.row hb, Nat.le_trans h.bs hb.size, h.len⟩
theorem FR.of_below (hb : Below w.heap.size w w') : FR w w' bl bM v v := ⟨.inl rfl, hb.size, hb.os, hb.tape, hb.output, fun i hi _ _ _ => hb.block i hi⟩
theorem FR.below {B : Nat} (h : FR w w' bl bM v v') (hl : B ≤ bl) (hM : B ≤ bM) (hr : w.ownsRow B 26 4 v K.length xs) (hB : B ≤ w.heap.size) : Below B w w' :=
  ⟨h.os, h.tape, h.out, h.grown, fun i hi => h.rest i (by omega) (by omega) (by omega) fun e => by have := (row_lt hr e.symm).1; omega⟩
end
/-- The list of keys behind a visit. -/
def kNext (K : List K4) (x : K4) : List K4 := if K.contains x = true then K else K ++ [x]
def xNext (K : List K4) (x : K4) (xs new : List Value) : List Value := if K.contains x = true then xs else xs ++ new
theorem idx_next (K : List K4) (x : K4) : (kNext K x).idxOf x = if K.contains x = true then K.idxOf x else K.length := by
  unfold kNext
  by_cases h : K.contains x = true
  · rw [if_pos h, if_pos h]
  · rw [if_neg h, if_neg h, List.idxOf_append, if_neg (by simpa using h)]
    simp
theorem visit_any {k n a b c d x1 x2 x3 x4 : Int} {base bg bm bl bM : Nat} {K : List K4} {v : Value} {xs : List Value} (w : World) (h : VS w base bg bm bl bM k n K v xs) (hl : K.length < 100000) (hx : wf4 (x1, x2, x3, x4)) (HC : CosC k n a b c d x1 x2 x3 x4) :
    Calls Try.prog 54 #[.agg #[.int .i64 a, .int .i64 b, .int .i64 c, .int .i64 d], .pointer (some ⟨bg, 0, none⟩), .pointer (some ⟨bm, 0, none⟩), .pointer (some ⟨bl, 0, none⟩)] w fun e w' => ∃ v', e = .returned (.int .i64 ((kNext K (x1, x2, x3, x4)).idxOf (x1, x2, x3, x4) : Nat)) ∧
      VS w' base bg bm bl bM k n (kNext K (x1, x2, x3, x4)) v' (xNext K (x1, x2, x3, x4) xs [.int .i64 a, .int .i64 b, .int .i64 c, .int .i64 d]) ∧ FR w w' bl bM v v' := by
  obtain ⟨D, hO, hD⟩ := h.own
  rw [idx_next]
  unfold kNext xNext
  by_cases hc : K.contains (x1, x2, x3, x4) = true
  · simp only [if_pos hc]
    refine (visit_old w h.g h.m hO hD hx hc HC).mono ?_
    rintro e w' ⟨rfl, hb⟩
    exact ⟨v, rfl, h.below hb, .of_below hb⟩
  · simp only [if_neg hc]
    have hc' : K.contains (x1, x2, x3, x4) = false := by simpa using hc
    refine (visit_new w h.g h.m h.l h.row h.len h.len h.bs hO hD hx hc' HC).mono ?_
    rintro e w' ⟨rfl, v', hV⟩
    have hr : FR w w' bl bM v v' := ⟨hV.at_, hV.grown, hV.os, hV.tape, hV.out, hV.rest⟩
    have cell : ∀ i (cs : Array Value) (t : TypeId), w.heap[i]? = some (.cells cs t (0, 0)) → i ≠ bl → t ≠ 26 → w'.heap[i]? = some (.cells cs t (0, 0)) := fun i cs t hi hil ht =>
      (hV.rest i (lt_of_block hi) (map_ne hO hi) hil (row_ne h.row hi ht)).trans hi
    have gl : bg ≠ bl := by
      rintro rfl
      have := h.g.symm.trans h.l
      simp at this
    have ml : bm ≠ bl := by
      rintro rfl
      have := h.m.symm.trans h.l
      simp at this
    refine ⟨v', rfl, ⟨cell _ _ _ h.g gl (by decide), cell _ _ _ h.m ml (by decide), hV.l, ⟨_, by rw [List.length_append]; exact hV.own, hD.put hx hc'⟩, by rw [List.length_append]; exact hV.row, Nat.le_trans h.bs hV.grown, by rw [List.length_append]; simp; omega⟩, hr⟩
end Go.Proofs.Ytfiooghodjiknaa
