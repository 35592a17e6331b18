/- The world within the search: what its boxes and rows are, kept through changes elsewhere. -/
import Derived.Test.YtfiooghodjiknaaSrM
namespace Go.Proofs.Ytfiooghodjiknaa
open Go.RowKit
set_option linter.unusedVariables false

/-- All old blocks are as they were but those of E. -/
structure CH (w w' : World) (E : Nat → Prop) : Prop where
  grown : w.heap.size ≤ w'.heap.size
  os : w'.os = w.os
  tape : w'.tape = w.tape
  out : w'.output = w.output
  rest : ∀ i, i < w.heap.size → ¬ E i → w'.heap[i]? = w.heap[i]?
section
variable {w w' w'' : World} {E : Nat → Prop} {base bg bm bl bM B ba : Nat} {k n : Int} {K : List K4} {v v' vS vT : Value} {xs : List Value} {S T : List Nat}
theorem CH.of_below (hb : Below w.heap.size w w') : CH w w' E := ⟨hb.size, hb.os, hb.tape, hb.output, fun i hi _ => hb.block i hi⟩
theorem CH.of_fr (h : FR w w' bl bM v v') : CH w w' (fun i => i = bM ∨ i = bl ∨ some i = v.ownBlock) := ⟨h.grown, h.os, h.tape, h.out, fun i hi he => h.rest i hi (fun e => he (.inl e)) (fun e => he (.inr (.inl e))) (fun e => he (.inr (.inr e)))⟩
theorem CH.trans (h : CH w w' E) (h' : CH w' w'' E) : CH w w'' E := ⟨Nat.le_trans h.grown h'.grown, h'.os.trans h.os, h'.tape.trans h.tape, h'.out.trans h.out, fun i hi he => (h'.rest i (Nat.lt_of_lt_of_le hi h.grown) he).trans (h.rest i hi he)⟩
theorem CH.below (h : CH w w' E) (hE : ∀ i, E i → B ≤ i) (hB : B ≤ w.heap.size) : Below B w w' := ⟨h.os, h.tape, h.out, h.grown, fun i hi => h.rest i (by omega) fun e => by have := hE i e; omega⟩
theorem CH.cells {cs : Array Value} {t : TypeId} {i : Nat} (h : CH w w' E) (hc : w.heap[i]? = some (.cells cs t (0, 0))) (hE : ¬ E i) : w'.heap[i]? = some (.cells cs t (0, 0)) := (h.rest i (lt_of_block hc) hE).trans hc
theorem CH.row {base m size : Nat} {e : TypeId} {v : Value} {xs : List Value} (h : CH w w' E) (hr : w.ownsRow base e size v m xs) (hE : ∀ g, v.ownBlock = some g → ¬ E g) : w'.ownsRow base e size v m xs :=
  row_keep hr fun g hg => by
    obtain ⟨_, cur, hc⟩ := row_lt hr hg
    exact h.rest g (lt_of_block hc) (hE g hg)
theorem VS.ch (h : VS w base bg bm bl bM k n K v xs) (hC : CH w w' E) (e1 : ¬ E bg) (e2 : ¬ E bm) (e3 : ¬ E bl) (e4 : ¬ E bM) (e5 : ∀ g, v.ownBlock = some g → ¬ E g) : VS w' base bg bm bl bM k n K v xs := by
  obtain ⟨D, h1, h2⟩ := h.own
  exact ⟨hC.cells h.g e1, hC.cells h.m e2, hC.cells h.l e3, ⟨D, map_keep h1 (hC.rest _ h1.lt e4), h2⟩, hC.row h.row e5, Nat.le_trans h.bs hC.grown, h.len⟩
def is (S : List Nat) : List Value := S.map fun x => .int .i64 (x : Nat)
/-- The box of the coset action, its two rows. -/
structure AB (w : World) (B ba : Nat) (vS vT : Value) (S T : List Nat) : Prop where
  a : w.heap[ba]? = some (.cells #[vS, vT] 47 (0, 0))
  rS : w.ownsRow B 3 1 vS S.length (is S)
  rT : w.ownsRow B 3 1 vT T.length (is T)
  ap : ∀ g, vS.ownBlock = some g → vT.ownBlock ≠ some g
  ge : B ≤ ba
theorem AB.ch (h : AB w B ba vS vT S T) (hC : CH w w' E) (e1 : ¬ E ba) (e2 : ∀ g, vS.ownBlock = some g → ¬ E g) (e3 : ∀ g, vT.ownBlock = some g → ¬ E g) : AB w' B ba vS vT S T :=
  ⟨hC.cells h.a e1, hC.row h.rS e2, hC.row h.rT e3, h.ap, h.ge⟩
theorem ty_ne {i j : Nat} {cs cs' : Array Value} {t t' : TypeId} (h : w.heap[i]? = some (.cells cs t (0, 0))) (h' : w.heap[j]? = some (.cells cs' t' (0, 0))) (hne : t ≠ t') : i ≠ j := by
  rintro rfl
  rw [h] at h'
  cases h'
  exact hne rfl
theorem AB.below (h : AB w B ba vS vT S T) (hb : Below w.heap.size w w') : AB w' B ba vS vT S T := h.ch (E := fun _ => False) (.of_below hb) (fun h => h) (fun _ _ h => h) (fun _ _ h => h)
/-- A visit leaves the box and its rows alone. -/
theorem AB.fr (h : AB w B ba vS vT S T) (hV : VS w base bg bm bl bM k n K v xs) (hF : FR w w' bl bM v v') : AB w' B ba vS vT S T := by
  obtain ⟨D, hO, _⟩ := hV.own
  have int : ∀ {u : Value} {m : Nat} {ys : List Value}, w.ownsRow B 3 1 u m ys → ∀ g, u.ownBlock = some g → ¬ (g = bM ∨ g = bl ∨ some g = v.ownBlock) := fun hr g hg => by
    obtain ⟨_, cur, hc⟩ := row_lt hr hg
    rintro (e | e | e)
    · exact map_ne hO hc e
    · exact ty_ne hc hV.l (by decide) e
    · exact row_ne hV.row hc (by decide) e
  refine h.ch (.of_fr hF) ?_ (int h.rS) (int h.rT)
  rintro (e | e | e)
  · exact map_ne hO h.a e
  · exact ty_ne h.a hV.l (by decide) e
  · exact row_ne hV.row h.a (by decide) e
/-- A change of the box and of one of its rows leaves what visit uses alone. -/
theorem VS.ab (hV : VS w base bg bm bl bM k n K v xs) (h : AB w B ba vS vT S T) (hC : CH w w' (fun i => i = ba ∨ some i = vS.ownBlock ∨ some i = vT.ownBlock)) : VS w' base bg bm bl bM k n K v xs := by
  obtain ⟨D, hO, _⟩ := hV.own
  have c : ∀ {i : Nat} {cs : Array Value} {t : TypeId}, w.heap[i]? = some (.cells cs t (0, 0)) → t ≠ 47 → t ≠ 3 → ¬ (i = ba ∨ some i = vS.ownBlock ∨ some i = vT.ownBlock) := fun hc h1 h2 => by
    rintro (e | e | e)
    · exact ty_ne hc h.a h1 e
    · exact row_ne h.rS hc h2 e
    · exact row_ne h.rT hc h2 e
  refine hV.ch hC (c hV.g (by decide) (by decide)) (c hV.m (by decide) (by decide)) (c hV.l (by decide) (by decide)) ?_ (fun g hg => ?_)
  · rintro (e | e | e)
    · exact map_ne hO h.a e.symm
    · obtain ⟨_, cur, hc⟩ := row_lt h.rS e.symm
      exact map_ne hO hc rfl
    · obtain ⟨_, cur, hc⟩ := row_lt h.rT e.symm
      exact map_ne hO hc rfl
  · obtain ⟨_, cur, hc⟩ := row_lt hV.row hg
    exact c hc (by decide) (by decide)
end
end Go.Proofs.Ytfiooghodjiknaa
