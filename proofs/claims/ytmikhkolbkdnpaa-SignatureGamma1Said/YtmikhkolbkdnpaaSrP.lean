/- Plain mathematics: the search for the cosets, its states. The world within the search: what its boxes and rows are, kept through changes elsewhere. The world within the search's round. -/
import Derived.Test.YtmikhkolbkdnpaaVisM
import Derived.Deep.RegionHeld3
import Derived.Deep.DeepCutAuto
import Derived.Deep.CutBlock
import Derived.Deep.AppendLies
namespace Go.Proofs.Ytmikhkolbkdnpaa
open Go.RowKit
set_option linter.unusedVariables false

abbrev M4 := Int × Int × Int × Int
def mS (m : M4) : M4 := (m.2.1, -m.1, m.2.2.2, -m.2.2.1)
def mT (m : M4) : M4 := (m.1, m.1 + m.2.1, m.2.2.1, m.2.2.1 + m.2.2.2)
def mc (m : M4) : List Value := [.int .i64 m.1, .int .i64 m.2.1, .int .i64 m.2.2.1, .int .i64 m.2.2.2]
def ms (L : List M4) : List Value := L.flatMap mc
theorem ms_append (L : List M4) (m : M4) : ms (L ++ [m]) = ms L ++ mc m := by simp [ms]
theorem ms_length : ∀ L : List M4, (ms L).length = L.length * 4
  | [] => rfl
  | m :: L => by
    have h : ms (m :: L) = mc m ++ ms L := rfl
    rw [h, List.length_append, ms_length L, List.length_cons]
    show 4 + _ = _
    omega
theorem ms_at : ∀ (L : List M4) {i : Nat} (h : i < L.length), (ms L)[i * 4]? = some (.int .i64 L[i].1) ∧ (ms L)[i * 4 + 1]? = some (.int .i64 L[i].2.1) ∧ (ms L)[i * 4 + 2]? = some (.int .i64 L[i].2.2.1) ∧ (ms L)[i * 4 + 3]? = some (.int .i64 L[i].2.2.2)
  | m :: L, 0, h => ⟨rfl, rfl, rfl, rfl⟩
  | m :: L, i + 1, h => by
    have e : ms (m :: L) = mc m ++ ms L := rfl
    have ih := ms_at L (i := i) (by simpa using h)
    have hl : (mc m).length = 4 := rfl
    rw [e]
    refine ⟨?_, ?_, ?_, ?_⟩
    · rw [List.getElem?_append_right (by omega), show (i + 1) * 4 - (mc m).length = i * 4 by omega]; exact ih.1
    · rw [List.getElem?_append_right (by omega), show (i + 1) * 4 + 1 - (mc m).length = i * 4 + 1 by omega]; exact ih.2.1
    · rw [List.getElem?_append_right (by omega), show (i + 1) * 4 + 2 - (mc m).length = i * 4 + 2 by omega]; exact ih.2.2.1
    · rw [List.getElem?_append_right (by omega), show (i + 1) * 4 + 3 - (mc m).length = i * 4 + 3 by omega]; exact ih.2.2.2
/-- The keys and the matrices behind a visit. -/
def lNext (K : List K4) (x : K4) (L : List M4) (m : M4) : List M4 := if K.contains x = true then L else L ++ [m]
theorem xNext_ms (K : List K4) (x : K4) (L : List M4) (m : M4) : xNext K x (ms L) (mc m) = ms (lNext K x L m) := by
  unfold xNext lNext
  by_cases h : K.contains x = true
  · rw [if_pos h, if_pos h]
  · rw [if_neg h, if_neg h, ms_append]
theorem next_len {K : List K4} {x : K4} {L : List M4} {m : M4} (h : K.length = L.length) : (kNext K x).length = (lNext K x L m).length := by
  unfold kNext lNext
  by_cases e : K.contains x = true
  · rw [if_pos e, if_pos e]; exact h
  · rw [if_neg e, if_neg e, List.length_append, List.length_append, h]; rfl
structure SSt where
  K : List K4
  L : List M4
  S : List Nat
  T : List Nat
/-- One round of the search. -/
def SSt.vs (co : M4 → K4) (s : SSt) (m : M4) : SSt := ⟨kNext s.K (co m), lNext s.K (co m) s.L m, s.S ++ [(kNext s.K (co m)).idxOf (co m)], s.T⟩
def SSt.vt (co : M4 → K4) (s : SSt) (m : M4) : SSt := ⟨kNext s.K (co m), lNext s.K (co m) s.L m, s.S, s.T ++ [(kNext s.K (co m)).idxOf (co m)]⟩
def srun (co : M4 → K4) : Nat → SSt
  | 0 => ⟨[co (1, 0, 0, 1)], [(1, 0, 0, 1)], [], []⟩
  | i + 1 => ((srun co i).vs co (mS ((srun co i).L.getD i (0, 0, 0, 0)))).vt co (mT ((srun co i).L.getD i (0, 0, 0, 0)))
theorem srun_len (co : M4 → K4) : ∀ i, (srun co i).K.length = (srun co i).L.length ∧ (srun co i).S.length = i ∧ (srun co i).T.length = i
  | 0 => ⟨rfl, rfl, rfl⟩
  | i + 1 => by
    obtain ⟨h1, h2, h3⟩ := srun_len co i
    refine ⟨next_len (next_len h1), ?_, ?_⟩
    · show (_ ++ [_]).length = _
      rw [List.length_append, h2]; rfl
    · show (_ ++ [_]).length = _
      rw [List.length_append]
      show (srun co i).T.length + 1 = _
      rw [h3]
end Go.Proofs.Ytmikhkolbkdnpaa
namespace Go.Proofs.Ytmikhkolbkdnpaa
open Go.RowKit
set_option linter.unusedVariables false

/-- All old blocks are as they were but those of E. -/
structure CH (w w' : World) (E : Nat → Prop) : Prop where
  grown : w.heap.size ≤ w'.heap.size
  os : w'.os = w.os
  tape : w'.tape = w.tape
  out : w'.output = w.output
  rest : ∀ i, i < w.heap.size → ¬ E i → w'.heap[i]? = w.heap[i]?
section
variable {w w' w'' : World} {E : Nat → Prop} {base bg bm bl bM B ba : Nat} {k n : Int} {K : List K4} {v v' vS vT : Value} {xs : List Value} {S T : List Nat}
theorem CH.of_below (hb : Below w.heap.size w w') : CH w w' E := ⟨hb.size, hb.os, hb.tape, hb.output, fun i hi _ => hb.block i hi⟩
theorem CH.of_fr (h : FR w w' bl bM v v') : CH w w' (fun i => i = bM ∨ i = bl ∨ some i = v.ownBlock) := ⟨h.grown, h.os, h.tape, h.out, fun i hi he => h.rest i hi (fun e => he (.inl e)) (fun e => he (.inr (.inl e))) (fun e => he (.inr (.inr e)))⟩
theorem CH.trans (h : CH w w' E) (h' : CH w' w'' E) : CH w w'' E := ⟨Nat.le_trans h.grown h'.grown, h'.os.trans h.os, h'.tape.trans h.tape, h'.out.trans h.out, fun i hi he => (h'.rest i (Nat.lt_of_lt_of_le hi h.grown) he).trans (h.rest i hi he)⟩
theorem CH.below (h : CH w w' E) (hE : ∀ i, E i → B ≤ i) (hB : B ≤ w.heap.size) : Below B w w' := ⟨h.os, h.tape, h.out, h.grown, fun i hi => h.rest i (by omega) fun e => by have := hE i e; omega⟩
theorem CH.cells {cs : Array Value} {t : TypeId} {i : Nat} (h : CH w w' E) (hc : w.heap[i]? = some (.cells cs t (0, 0))) (hE : ¬ E i) : w'.heap[i]? = some (.cells cs t (0, 0)) := (h.rest i (lt_of_block hc) hE).trans hc
theorem CH.row {base m size : Nat} {e : TypeId} {v : Value} {xs : List Value} (h : CH w w' E) (hr : w.ownsRow base e size v m xs) (hE : ∀ g, v.ownBlock = some g → ¬ E g) : w'.ownsRow base e size v m xs :=
  row_keep hr fun g hg => by
    obtain ⟨_, cur, hc⟩ := row_lt hr hg
    exact h.rest g (lt_of_block hc) (hE g hg)
theorem VS.ch (h : VS w base bg bm bl bM k n K v xs) (hC : CH w w' E) (e1 : ¬ E bg) (e2 : ¬ E bm) (e3 : ¬ E bl) (e4 : ¬ E bM) (e5 : ∀ g, v.ownBlock = some g → ¬ E g) : VS w' base bg bm bl bM k n K v xs := by
  obtain ⟨D, h1, h2⟩ := h.own
  exact ⟨hC.cells h.g e1, hC.cells h.m e2, hC.cells h.l e3, ⟨D, map_keep h1 (hC.rest _ h1.lt e4), h2⟩, hC.row h.row e5, Nat.le_trans h.bs hC.grown, h.len⟩
def is (S : List Nat) : List Value := S.map fun x => .int .i64 (x : Nat)
/-- The box of the coset action, its two rows. -/
structure AB (w : World) (B ba : Nat) (vS vT : Value) (S T : List Nat) : Prop where
  a : w.heap[ba]? = some (.cells #[vS, vT] 24 (0, 0))
  rS : w.ownsRow B 3 1 vS S.length (is S)
  rT : w.ownsRow B 3 1 vT T.length (is T)
  ap : ∀ g, vS.ownBlock = some g → vT.ownBlock ≠ some g
  ge : B ≤ ba
theorem AB.ch (h : AB w B ba vS vT S T) (hC : CH w w' E) (e1 : ¬ E ba) (e2 : ∀ g, vS.ownBlock = some g → ¬ E g) (e3 : ∀ g, vT.ownBlock = some g → ¬ E g) : AB w' B ba vS vT S T :=
  ⟨hC.cells h.a e1, hC.row h.rS e2, hC.row h.rT e3, h.ap, h.ge⟩
theorem ty_ne {i j : Nat} {cs cs' : Array Value} {t t' : TypeId} (h : w.heap[i]? = some (.cells cs t (0, 0))) (h' : w.heap[j]? = some (.cells cs' t' (0, 0))) (hne : t ≠ t') : i ≠ j := by
  rintro rfl
  rw [h] at h'
  cases h'
  exact hne rfl
theorem AB.below (h : AB w B ba vS vT S T) (hb : Below w.heap.size w w') : AB w' B ba vS vT S T := h.ch (E := fun _ => False) (.of_below hb) (fun h => h) (fun _ _ h => h) (fun _ _ h => h)
/-- A visit leaves the box and its rows alone. -/
theorem AB.fr (h : AB w B ba vS vT S T) (hV : VS w base bg bm bl bM k n K v xs) (hF : FR w w' bl bM v v') : AB w' B ba vS vT S T := by
  obtain ⟨D, hO, _⟩ := hV.own
  have int : ∀ {u : Value} {m : Nat} {ys : List Value}, w.ownsRow B 3 1 u m ys → ∀ g, u.ownBlock = some g → ¬ (g = bM ∨ g = bl ∨ some g = v.ownBlock) := fun hr g hg => by
    obtain ⟨_, cur, hc⟩ := row_lt hr hg
    rintro (e | e | e)
    · exact map_ne hO hc e
    · exact ty_ne hc hV.l (by decide) e
    · exact row_ne hV.row hc (by decide) e
  refine h.ch (.of_fr hF) ?_ (int h.rS) (int h.rT)
  rintro (e | e | e)
  · exact map_ne hO h.a e
  · exact ty_ne h.a hV.l (by decide) e
  · exact row_ne hV.row h.a (by decide) e
/-- A change of the box and of one of its rows leaves what visit uses alone. -/
theorem VS.ab (hV : VS w base bg bm bl bM k n K v xs) (h : AB w B ba vS vT S T) (hC : CH w w' (fun i => i = ba ∨ some i = vS.ownBlock ∨ some i = vT.ownBlock)) : VS w' base bg bm bl bM k n K v xs := by
  obtain ⟨D, hO, _⟩ := hV.own
  have c : ∀ {i : Nat} {cs : Array Value} {t : TypeId}, w.heap[i]? = some (.cells cs t (0, 0)) → t ≠ 24 → t ≠ 3 → ¬ (i = ba ∨ some i = vS.ownBlock ∨ some i = vT.ownBlock) := fun hc h1 h2 => by
    rintro (e | e | e)
    · exact ty_ne hc h.a h1 e
    · exact row_ne h.rS hc h2 e
    · exact row_ne h.rT hc h2 e
  refine hV.ch hC (c hV.g (by decide) (by decide)) (c hV.m (by decide) (by decide)) (c hV.l (by decide) (by decide)) ?_ (fun g hg => ?_)
  · rintro (e | e | e)
    · exact map_ne hO h.a e.symm
    · obtain ⟨_, cur, hc⟩ := row_lt h.rS e.symm
      exact map_ne hO hc rfl
    · obtain ⟨_, cur, hc⟩ := row_lt h.rT e.symm
      exact map_ne hO hc rfl
  · obtain ⟨_, cur, hc⟩ := row_lt hV.row hg
    exact c hc (by decide) (by decide)
end
end Go.Proofs.Ytmikhkolbkdnpaa
namespace Go.Proofs.Ytmikhkolbkdnpaa
open Go.RowKit
open Go.Maps (Keyed)
set_option linter.unusedVariables false

theorem infoI : (Try.prog.info? 3).map (fun i => (i.zero, i.size, i.bytes)) = some (some (.int .i64 0), 1, 8) := by kernel_rfl
theorem row_at {w : World} {B : Nat} {v : Value} {L : List M4} (h : w.ownsRow B 106 4 v L.length (ms L)) {i : Nat} (hi : i < L.length) : ∃ g cap, v = .slice (some ⟨g, 0, none⟩) L.length cap ∧ g < w.heap.size ∧
    w.cell? ⟨g, i * 4, none⟩ = some (.int .i64 L[i].1) ∧ w.cell? ⟨g, i * 4 + 1, none⟩ = some (.int .i64 L[i].2.1) ∧ w.cell? ⟨g, i * 4 + 2, none⟩ = some (.int .i64 L[i].2.2.1) ∧ w.cell? ⟨g, i * 4 + 3, none⟩ = some (.int .i64 L[i].2.2.2) := by
  have h2 := h.2
  rcases h2 with ⟨_, h0⟩ | ⟨g, cap, cur, rfl, hb, hg, _⟩
  · omega
  · have hc : ∀ j u, (ms L)[j]? = some u → w.cell? ((⟨g, 0, none⟩ : Addr).add j) = some u := h.cells (g := g) rfl
    obtain ⟨m1, m2, m3, m4⟩ := ms_at L hi
    have e : ∀ j, (⟨g, 0, none⟩ : Addr).add j = ⟨g, j, none⟩ := fun j => by unfold Addr.add; split <;> simp_all
    refine ⟨g, cap, rfl, lt_of_block hg, ?_, ?_, ?_, ?_⟩
    · rw [← e]; exact hc _ _ m1
    · rw [← e]; exact hc _ _ m2
    · rw [← e]; exact hc _ _ m3
    · rw [← e]; exact hc _ _ m4
theorem getD_at {L : List M4} {i : Nat} (h : i < L.length) : L.getD i (0, 0, 0, 0) = L[i] := by simp [List.getD, h]
theorem kNext_le (K : List K4) (x : K4) : (kNext K x).length ≤ K.length + 1 := by
  unfold kNext
  by_cases h : K.contains x = true
  · rw [if_pos h]; omega
  · rw [if_neg h, List.length_append]; exact Nat.le_refl _
theorem srun_le (co : M4 → K4) : ∀ i, (srun co i).K.length ≤ 2 * i + 1
  | 0 => by show 1 ≤ _; omega
  | i + 1 => by
    have h := srun_le co i
    have h1 := kNext_le (srun co i).K (co (mS ((srun co i).L.getD i (0, 0, 0, 0))))
    have h2 : (srun co (i + 1)).K.length ≤ _ := kNext_le (kNext (srun co i).K (co (mS ((srun co i).L.getD i (0, 0, 0, 0))))) (co (mT ((srun co i).L.getD i (0, 0, 0, 0))))
    omega
/-- What the search asks of a matrix: its coset is known. -/
structure CoM (k n : Int) (co : M4 → K4) (m : M4) : Prop where
  c : CosC k n m.1 m.2.1 m.2.2.1 m.2.2.2 (co m).1 (co m).2.1 (co m).2.2.1 (co m).2.2.2
  wf : wf4 (co m)
def bd4 (m : M4) : Prop := (-1000000000 ≤ m.1 ∧ m.1 ≤ 1000000000) ∧ (-1000000000 ≤ m.2.1 ∧ m.2.1 ≤ 1000000000) ∧ (-1000000000 ≤ m.2.2.1 ∧ m.2.2.1 ≤ 1000000000) ∧ (-1000000000 ≤ m.2.2.2 ∧ m.2.2.2 ≤ 1000000000)
/-- The world within the search. -/
structure SW (w wr : World) (bm ba : Nat) (k n : Int) (s : SSt) (vl vS vT : Value) : Prop where
  v : VS wr w.heap.size w.heap.size bm (w.heap.size + 1 + 1 + 1 + 1) (w.heap.size + 1 + 1 + 1 + 1 + 1) k n s.K vl (ms s.L)
  a : AB wr w.heap.size ba vS vT s.S s.T
  bel : Below w.heap.size w wr
  res : wr.heap[w.heap.size + 1]? = some (.cells #[.slice none 0 0, .slice none 0 0] 24 (0, 0))
  nb : w.heap.size + 1 < ba
theorem visit_co {k n : Int} {co : M4 → K4} {m : M4} {base bg bm bl bM : Nat} {K : List K4} {L : List M4} {v : Value} (w : World) (h : VS w base bg bm bl bM k n K v (ms L)) (hl : K.length < 100000) (hC : CoM k n co m) :
    Calls Try.prog 73 #[.agg #[.int .i64 m.1, .int .i64 m.2.1, .int .i64 m.2.2.1, .int .i64 m.2.2.2], .pointer (some ⟨bg, 0, none⟩), .pointer (some ⟨bm, 0, none⟩), .pointer (some ⟨bl, 0, none⟩)] w fun e w' => ∃ v', e = .returned (.int .i64 ((kNext K (co m)).idxOf (co m) : Nat)) ∧
      VS w' base bg bm bl bM k n (kNext K (co m)) v' (ms (lNext K (co m) L m)) ∧ FR w w' bl bM v v' := by
  have := visit_any (a := m.1) (b := m.2.1) (c := m.2.2.1) (d := m.2.2.2) (x1 := (co m).1) (x2 := (co m).2.1) (x3 := (co m).2.2.1) (x4 := (co m).2.2.2) w h hl hC.wf hC.c
  rw [show ((co m).1, (co m).2.1, (co m).2.2.1, (co m).2.2.2) = co m from rfl] at this
  rw [show [Value.int .i64 m.1, Value.int .i64 m.2.1, Value.int .i64 m.2.2.1, Value.int .i64 m.2.2.2] = mc m from rfl, xNext_ms] at this
  exact this
/-- The world within a round: the round's matrix has a box of its own. -/
structure SM (w wr : World) (bm ba gm : Nat) (k n : Int) (s : SSt) (vl vS vT : Value) (m : M4) : Prop where
  s : SW w wr bm ba k n s vl vS vT
  f : Four wr gm m.1 m.2.1 m.2.2.1 m.2.2.2
  ne : vl.ownBlock ≠ some gm
  ge : w.heap.size ≤ gm
section
variable {w wr w' : World} {bm ba gm : Nat} {k n : Int} {s : SSt} {K : List K4} {L : List M4} {S T : List Nat} {vl vl' vS vT vN : Value} {m : M4} {co : M4 → K4} {vm : M4}
theorem SM.below (h : SM w wr bm ba gm k n s vl vS vT m) (hb : Below wr.heap.size wr w') : SM w w' bm ba gm k n s vl vS vT m :=
  ⟨⟨h.s.v.below hb, h.s.a.below hb, h.s.bel.trans (hb.mono h.s.v.bs), block_below h.s.res hb, h.s.nb⟩, h.f.below hb, h.ne, h.ge⟩
theorem SM.drew (h : SM w wr bm ba gm k n s vl vS vT m) : SM w wr.drew bm ba gm k n s vl vS vT m := h.below ((Below.refl _ wr).drew)
theorem SM.alloc (h : SM w wr bm ba gm k n s vl vS vT m) (o : Obj) : SM w (wr.alloc o) bm ba gm k n s vl vS vT m := h.below (below1 _ _)
theorem SM.cells (h : SM w wr bm ba gm k n s vl vS vT m) : (wr.cell? ⟨ba, 0, none⟩ = some vS ∧ wr.cell? ⟨ba, 1, none⟩ = some vT) ∧ (wr.cell? ⟨gm, 0, none⟩ = some (.int .i64 m.1) ∧ wr.cell? ⟨gm, 1, none⟩ = some (.int .i64 m.2.1) ∧ wr.cell? ⟨gm, 2, none⟩ = some (.int .i64 m.2.2.1) ∧ wr.cell? ⟨gm, 3, none⟩ = some (.int .i64 m.2.2.2)) :=
  ⟨(two_of_block h.s.a.a).1, h.f.cells⟩
theorem SM.visit (h : SM w wr bm ba gm k n ⟨K, L, S, T⟩ vl vS vT m) {K' : List K4} {L' : List M4} (hV : VS w' w.heap.size w.heap.size bm (w.heap.size + 1 + 1 + 1 + 1) (w.heap.size + 1 + 1 + 1 + 1 + 1) k n K' vl' (ms L')) (hF : FR wr w' (w.heap.size + 1 + 1 + 1 + 1) (w.heap.size + 1 + 1 + 1 + 1 + 1) vl vl') : SM w w' bm ba gm k n ⟨K', L', S, T⟩ vl' vS vT m := by
  have hlt := h.f.lt
  obtain ⟨D, hO, _⟩ := h.s.v.own
  refine ⟨⟨hV, h.s.a.fr h.s.v hF, h.s.bel.trans (hF.below (by omega) (by omega) h.s.v.row h.s.v.bs), (hF.rest _ (lt_of_block h.s.res) (map_ne hO h.s.res) (ty_ne h.s.res h.s.v.l (by decide)) (row_ne h.s.v.row h.s.res (by decide))).trans h.s.res, h.s.nb⟩, (hF.rest gm hlt (map_ne hO h.f) (ty_ne h.f h.s.v.l (by decide)) (fun e => h.ne e.symm)).trans h.f, fun e => ?_, h.ge⟩
  rcases hF.at_ with e' | ⟨g, e', hg⟩
  · exact h.ne (e'.symm.trans e)
  · rw [e'] at e
    cases e
    omega
theorem visit_sm (hCo : CoM k n co vm) (hl : K.length < 100000) (W : World) (h : SM w W bm ba gm k n ⟨K, L, S, T⟩ vl vS vT m) :
    Calls Try.prog 73 #[.agg #[.int .i64 vm.1, .int .i64 vm.2.1, .int .i64 vm.2.2.1, .int .i64 vm.2.2.2], .pointer (some ⟨w.heap.size, 0, none⟩), .pointer (some ⟨bm, 0, none⟩), .pointer (some ⟨w.heap.size + 1 + 1 + 1 + 1, 0, none⟩)] W fun e w' => ∃ vl', e = .returned (.int .i64 ((kNext K (co vm)).idxOf (co vm) : Nat)) ∧
      SM w w' bm ba gm k n ⟨kNext K (co vm), lNext K (co vm) L vm, S, T⟩ vl' vS vT m := by
  refine (visit_co W h.s.v hl hCo).mono ?_
  rintro e w' ⟨v', rfl, hV, hF⟩
  exact ⟨v', rfl, h.visit hV hF⟩
/-- An append to one of the rows: what the walk reads behind it. -/
theorem SM.app (h : SM w wr bm ba gm k n s vl vS vT m) {v : Value} (hv : v = vS ∨ v = vT) (hg : wr.grownBy w' v.ownBlock) : w'.heap[ba]? = some (.cells #[vS, vT] 24 (0, 0)) ∧ Four w' gm m.1 m.2.1 m.2.2.1 m.2.2.2 := by
  have c : ∀ {i : Nat} {cs : Array Value} {t : TypeId}, wr.heap[i]? = some (.cells cs t (0, 0)) → t ≠ 3 → w'.heap[i]? = some (.cells cs t (0, 0)) := fun hc ht => by
    refine (hg.block _ (lt_of_block hc) ?_).trans hc
    rcases hv with rfl | rfl
    · exact row_ne h.s.a.rS hc ht
    · exact row_ne h.s.a.rT hc ht
  exact ⟨c h.s.a.a (by decide), c h.f (by decide)⟩
theorem SM.pushS (h : SM w wr bm ba gm k n ⟨K, L, S, T⟩ vl vS vT m) {x : Nat} {g cap : Nat} (hown : w'.ownsRow w.heap.size 3 1 (.slice (some ⟨g, 0, none⟩) (S.length + 1) cap) (S.length + 1) (is S ++ [.int .i64 (x : Nat)])) (hg : wr.grownBy w' vS.ownBlock) (hat : vS.ownBlock = some g ∨ g = wr.heap.size) :
    SM w (w'.setCell ⟨ba, 0, none⟩ (.slice (some ⟨g, 0, none⟩) (S.length + 1) cap)) bm ba gm k n ⟨K, L, S ++ [x], T⟩ vl (.slice (some ⟨g, 0, none⟩) (S.length + 1) cap) vT m := by
  obtain ⟨ha, hf⟩ := h.app (.inl rfl) hg
  have hC : CH wr (w'.setCell ⟨ba, 0, none⟩ (.slice (some ⟨g, 0, none⟩) (S.length + 1) cap)) (fun i => i = ba ∨ some i = vS.ownBlock ∨ some i = vT.ownBlock) :=
    ⟨by have := hg.size; simpa using this, hg.os, hg.tape, hg.output, fun i hi he => set_ne (hg.block i hi (fun e => he (.inr (.inl e)))) (fun e => he (.inl e)) _⟩
  have nb : ∀ {i : Nat} {cs : Array Value} {t : TypeId}, w'.heap[i]? = some (.cells cs t (0, 0)) → t ≠ 24 → i ≠ ba := fun hc ht e => ty_ne hc ha ht e
  refine ⟨⟨h.s.v.ab h.s.a hC, ⟨?_, ?_, ?_, fun g' h1 h2 => ?_, h.s.a.ge⟩, h.s.bel.trans (hC.below ?_ h.s.v.bs), hC.cells h.s.res ?_, h.s.nb⟩, set_ne hf (nb hf (by decide)) _, h.ne, h.ge⟩
  · exact heap_setCell_same _ ba 0 #[vS, vT] _ _ ha
  · rw [show (SSt.mk K L (S ++ [x]) T).S.length = S.length + 1 from by simp, show is (S ++ [x]) = is S ++ [.int .i64 (x : Nat)] from by simp [is]]
    exact row_keep hown fun g' h1 => by
      obtain ⟨_, cur, hc⟩ := row_lt hown h1
      exact set_ne rfl (nb hc (by decide)) _
  · refine row_keep h.s.a.rT fun g' h1 => ?_
    obtain ⟨_, cur, hc⟩ := row_lt h.s.a.rT h1
    have h2 : some g' ≠ vS.ownBlock := fun e => h.s.a.ap g' e.symm h1
    have h3 := hg.block g' (lt_of_block hc) h2
    exact set_ne h3 (nb (h3.trans hc) (by decide)) _
  · cases h1
    obtain ⟨_, cur, hc⟩ := row_lt h.s.a.rT h2
    rcases hat with e | e
    · exact h.s.a.ap _ e h2
    · have h9 : g < wr.heap.size := lt_of_block hc
      omega
  · rintro i (e | e | e)
    · rw [e]; exact h.s.a.ge
    · exact (row_lt h.s.a.rS e.symm).1
    · exact (row_lt h.s.a.rT e.symm).1
  · have := h.s.nb
    rintro (e | e | e)
    · omega
    · exact row_ne h.s.a.rS h.s.res (by decide) e
    · exact row_ne h.s.a.rT h.s.res (by decide) e
theorem SM.pushT (h : SM w wr bm ba gm k n ⟨K, L, S, T⟩ vl vS vT m) {x : Nat} {g cap : Nat} (hown : w'.ownsRow w.heap.size 3 1 (.slice (some ⟨g, 0, none⟩) (T.length + 1) cap) (T.length + 1) (is T ++ [.int .i64 (x : Nat)])) (hg : wr.grownBy w' vT.ownBlock) (hat : vT.ownBlock = some g ∨ g = wr.heap.size) :
    SM w (w'.setCell ⟨ba, 1, none⟩ (.slice (some ⟨g, 0, none⟩) (T.length + 1) cap)) bm ba gm k n ⟨K, L, S, T ++ [x]⟩ vl vS (.slice (some ⟨g, 0, none⟩) (T.length + 1) cap) m := by
  obtain ⟨ha, hf⟩ := h.app (.inr rfl) hg
  have hC : CH wr (w'.setCell ⟨ba, 1, none⟩ (.slice (some ⟨g, 0, none⟩) (T.length + 1) cap)) (fun i => i = ba ∨ some i = vS.ownBlock ∨ some i = vT.ownBlock) :=
    ⟨by have := hg.size; simpa using this, hg.os, hg.tape, hg.output, fun i hi he => set_ne (hg.block i hi (fun e => he (.inr (.inr e)))) (fun e => he (.inl e)) _⟩
  have nb : ∀ {i : Nat} {cs : Array Value} {t : TypeId}, w'.heap[i]? = some (.cells cs t (0, 0)) → t ≠ 24 → i ≠ ba := fun hc ht e => ty_ne hc ha ht e
  refine ⟨⟨h.s.v.ab h.s.a hC, ⟨?_, ?_, ?_, fun g' h1 h2 => ?_, h.s.a.ge⟩, h.s.bel.trans (hC.below ?_ h.s.v.bs), hC.cells h.s.res ?_, h.s.nb⟩, set_ne hf (nb hf (by decide)) _, h.ne, h.ge⟩
  · exact heap_setCell_same _ ba 1 #[vS, vT] _ _ ha
  · refine row_keep h.s.a.rS fun g' h1 => ?_
    obtain ⟨_, cur, hc⟩ := row_lt h.s.a.rS h1
    have h2 : some g' ≠ vT.ownBlock := fun e => h.s.a.ap g' h1 e.symm
    have h3 := hg.block g' (lt_of_block hc) h2
    exact set_ne h3 (nb (h3.trans hc) (by decide)) _
  · rw [show (SSt.mk K L S (T ++ [x])).T.length = T.length + 1 from by simp, show is (T ++ [x]) = is T ++ [.int .i64 (x : Nat)] from by simp [is]]
    exact row_keep hown fun g' h1 => by
      obtain ⟨_, cur, hc⟩ := row_lt hown h1
      exact set_ne rfl (nb hc (by decide)) _
  · cases h2
    obtain ⟨_, cur, hc⟩ := row_lt h.s.a.rS h1
    rcases hat with e | e
    · exact h.s.a.ap _ h1 e
    · have h9 : g < wr.heap.size := lt_of_block hc
      omega
  · rintro i (e | e | e)
    · rw [e]; exact h.s.a.ge
    · exact (row_lt h.s.a.rS e.symm).1
    · exact (row_lt h.s.a.rT e.symm).1
  · have := h.s.nb
    rintro (e | e | e)
    · omega
    · exact row_ne h.s.a.rS h.s.res (by decide) e
    · exact row_ne h.s.a.rT h.s.res (by decide) e
end
theorem wpList_insert_own {H : Type} {P : Program} (w : World) {ops : Array Oper} {rest : List Oper} {o : Oper} {a : Act} {Q : Exit → Act → World → Prop}
    (hg : o.guard = none) (m x v : Operand) (t : TypeId) (hop : o.op = Op.insert t m x v)
    (k e : TypeId) (K : Keyed P k) (ht : P.underlying t = some (.map k e)) (R : Value → Option (DataW H × List MemPlace)) (b n : Nat) (D : DataW H)
    (hm : a.eval m = .map (some b)) (hown : w.ownsMap P k R b n D) (hn : n < maxLen) (key val : Value) (kl : Lit) (hx : a.eval x = key) (hv : a.eval v = val) (hkey : keyOf P k key = some kl)
    (d : DataW H) (ps : List MemPlace) (hval : R val = some (d, ps))
    (hK : ∀ w', w'.ownsMap P k R b (n + 1) (D.put kl d) → w.grownBy w' (some b) → wpList P ops Q rest (a.put o.dst undef) w') :
    wpList P ops Q (o :: rest) a w := by
  refine wpList_plain hg fun K' hK' => ?_
  obtain ⟨w', hrun, r1, r2⟩ := hown.update K ht hn hkey hval
  unfold Oper.wp
  simp [execOp, hop, hm, hx, hv, hrun, Result.andThen]
  exact hK' _ _ (hK w' r1 r2)
/-- The world before the search's first coset. -/
def w6 (w : World) (k n : Int) : World := (((((w.alloc (.cells #[.int .i64 k, .int .i64 n] 51)).alloc (.cells #[.slice none 0 0, .slice none 0 0] 24)).alloc (.cells #[.int .i64 1, .int .i64 0, .int .i64 0, .int .i64 1] 106)).alloc (.cells #[.int .i64 1, .int .i64 0, .int .i64 0, .int .i64 1] 106)).alloc (.cells #[.slice (some ⟨w.heap.size + 1 + 1 + 1, 0, none⟩) 1 1] 77)).alloc (.map #[] 0)
theorem w6_size (w : World) (k n : Int) : (w6 w k n).heap.size = w.heap.size + 6 := by simp [w6]
theorem w6_at (w : World) (k n : Int) : (w6 w k n).heap[w.heap.size + 1]? = some (.cells #[.slice none 0 0, .slice none 0 0] 24 (0, 0)) ∧ (w6 w k n).heap[w.heap.size]? = some (.cells #[.int .i64 k, .int .i64 n] 51 (0, 0)) ∧ (w6 w k n).heap[w.heap.size + 1 + 1 + 1]? = some (.cells #[.int .i64 1, .int .i64 0, .int .i64 0, .int .i64 1] 106 (0, 0)) ∧
    (w6 w k n).heap[w.heap.size + 1 + 1 + 1 + 1]? = some (.cells #[.slice (some ⟨w.heap.size + 1 + 1 + 1, 0, none⟩) 1 1] 77 (0, 0)) ∧ IsMp (w6 w k n) (w.heap.size + 1 + 1 + 1 + 1 + 1) 0 (.map []) ∧ Below w.heap.size w (w6 w k n) := by
  have at_ : ∀ (W : World) (o : Obj) {g : Nat}, g = W.heap.size → (W.alloc o).heap[g]? = some o := fun W o g hg => by rw [hg]; exact heap_alloc_new W o
  refine ⟨?_, ?_, ?_, ?_, ?_, ?_⟩
  · exact block_alloc (block_alloc (block_alloc (block_alloc (at_ _ _ (by simp)) _) _) _) _
  · exact block_alloc (block_alloc (block_alloc (block_alloc (block_alloc (at_ _ _ rfl) _) _) _) _) _
  · exact block_alloc (block_alloc (at_ _ _ (by simp)) _) _
  · exact block_alloc (at_ _ _ (by simp)) _
  · have := World.ownsMap_made (((((w.alloc (.cells #[.int .i64 k, .int .i64 n] 51)).alloc (.cells #[.slice none 0 0, .slice none 0 0] 24)).alloc (.cells #[.int .i64 1, .int .i64 0, .int .i64 0, .int .i64 1] 106)).alloc (.cells #[.int .i64 1, .int .i64 0, .int .i64 0, .int .i64 1] 106)).alloc (.cells #[.slice (some ⟨w.heap.size + 1 + 1 + 1, 0, none⟩) 1 1] 77)) Try.prog 107 (plainElem (H := Unit) Try.prog 3)
    simpa [w6] using this
  · exact (below4 w _ _ _ _).trans ((below2 _ _ _).mono (by simp; omega))
/-- The loop's first world. -/
theorem sw_start {k n : Int} {w w1 w2 : World} {x : K4} {D : DataW Unit} (hb : Below (w6 w k n).heap.size (w6 w k n) w1) (hO : IsMp w2 (w.heap.size + 1 + 1 + 1 + 1 + 1) 1 D) (hD : MD D [x]) (hg : w1.grownBy w2 (some (w.heap.size + 1 + 1 + 1 + 1 + 1))) :
    SW w ((w2.alloc (.cells #[.map (some (w.heap.size + 1 + 1 + 1 + 1 + 1))] 109)).alloc (.cells #[.slice none 0 0, .slice none 0 0] 24)) w2.heap.size (w2.heap.size + 1) k n ⟨[x], [(1, 0, 0, 1)], [], []⟩ (.slice (some ⟨w.heap.size + 1 + 1 + 1, 0, none⟩) 1 1) (.slice none 0 0) (.slice none 0 0) := by
  obtain ⟨h0, h1, h2, h3, h4, h5⟩ := w6_at w k n
  have s6 := w6_size w k n
  have s1 := hb.size
  have s2 := hg.size
  have go : ∀ {g : Nat} {o : Obj}, (w6 w k n).heap[g]? = some o → g ≠ w.heap.size + 1 + 1 + 1 + 1 + 1 → w2.heap[g]? = some o := fun hc hne =>
    (hg.block _ (Nat.lt_of_lt_of_le (lt_of_block hc) s1) (by simpa using hne)).trans (block_below hc hb)
  have c0 := go h0 (by omega)
  have c1 := go h1 (by omega)
  have c2 := go h2 (by omega)
  have c3 := go h3 (by omega)
  have at_ : ∀ (W : World) (o : Obj) {g : Nat}, g = W.heap.size → (W.alloc o).heap[g]? = some o := fun W o g hg => by rw [hg]; exact heap_alloc_new W o
  refine ⟨⟨block_alloc (block_alloc c1 _) _, block_alloc (at_ _ _ rfl) _, block_alloc (block_alloc c3 _) _, ⟨D, (hO.alloc _).alloc _, hD⟩, ⟨rfl, .inr ⟨w.heap.size + 1 + 1 + 1, 1, _, rfl, by omega, block_alloc (block_alloc c2 _) _, Nat.le_refl 1, by unfold maxLen; omega, rfl, rfl⟩⟩, by simp; omega, by simp⟩,
    ⟨at_ _ _ (by simp), ⟨rfl, .inl ⟨rfl, rfl⟩⟩, ⟨rfl, .inl ⟨rfl, rfl⟩⟩, fun g hg => (by cases hg), by omega⟩, ?_, block_alloc (block_alloc c0 _) _, by omega⟩
  have hB2 : Below w.heap.size w w2 := ⟨hg.os.trans (hb.os.trans h5.os), hg.tape.trans (hb.tape.trans h5.tape), hg.output.trans (hb.output.trans h5.output), by have := h5.size; omega, fun i hi => (hg.block i (by omega) (by simp; omega)).trans ((hb.block i (by omega)).trans (h5.block i hi))⟩
  exact hB2.trans ((below2 w2 _ _).mono (by have := hB2.size; omega))
end Go.Proofs.Ytmikhkolbkdnpaa
