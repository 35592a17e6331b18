/- The world within ref22.together: a row of places, the list of pairs, the boxes. The contract of ref22.together. -/
import Derived.Test.YtjofmgnggeoimaaPrM
import Derived.Test.YtjofmgnggeoimaaRSeaL
import Derived.Test.YtjofmgnggeoimaaProL
import Derived.Test.YtjofmgnggeoimaaIntT
import Derived.Laws.MakeOwn
namespace Go.Proofs.Ytjofmgnggeoimaa
open Go.RowKit
set_option linter.unusedVariables false

/-- The place of a number in a list, plus 1; 0 if it isn't in it. -/
def plx (L : List Nat) (p : Nat) : Nat := if p ∈ L then L.idxOf p + 1 else 0
theorem plx_in {L : List Nat} {p : Nat} (h : p ∈ L) : plx L p = L.idxOf p + 1 := if_pos h
theorem plx_out {L : List Nat} {p : Nat} (h : p ∉ L) : plx L p = 0 := if_neg h
theorem plx_push {L : List Nat} {t p : Nat} (h : t ∉ L) : plx (L ++ [t]) p = if p = t then L.length + 1 else plx L p := by
  unfold plx
  by_cases e : p = t
  · subst e
    rw [if_pos (by simp), if_pos rfl, List.idxOf_append, if_neg h]
    simp
  · rw [if_neg e]
    by_cases hp : p ∈ L
    · rw [if_pos (by simp [hp]), if_pos hp, List.idxOf_append, if_pos hp]
    · rw [if_neg (by simp [hp, e]), if_neg hp]
structure TW (w wr : World) (pk ba : Nat) (P Q : Array Value) (N m : Nat) (L : List Nat) (v vS vT : Value) (S T : List Nat) : Prop where
  row : wr.rowIs pk 3 N (fun p => .int .i64 (plx L p : Nat))
  l : wr.ownsRow w.heap.size 98 2 v L.length (pfl (L.map (dec m)))
  a : AB wr w.heap.size ba vS vT S T
  bel : Below w.heap.size w wr
  pa : wr.heap[w.heap.size]? = some (.cells P 24 (0, 0))
  pb : wr.heap[w.heap.size + 1]? = some (.cells Q 24 (0, 0))
  res : wr.heap[w.heap.size + 1 + 1]? = some (.cells #[.slice none 0 0, .slice none 0 0] 24 (0, 0))
  nb : w.heap.size + 1 + 1 < ba
  kS : some pk ≠ vS.ownBlock
  kT : some pk ≠ vT.ownBlock
  kg : w.heap.size ≤ pk
  bs : w.heap.size ≤ wr.heap.size
section
variable {w wr w' : World} {pk ba : Nat} {P Q : Array Value} {N m : Nat} {L : List Nat} {v v' vS vT : Value} {S T : List Nat}
theorem TW.pk_blk (h : TW w wr pk ba P Q N m L v vS vT S T) : ∃ c, wr.heap[pk]? = some (.cells c 3 (0, 0)) := by
  obtain ⟨c, hc, _⟩ := h.row
  exact ⟨c, hc⟩
theorem TW.below (h : TW w wr pk ba P Q N m L v vS vT S T) (hb : Below wr.heap.size wr w') : TW w w' pk ba P Q N m L v vS vT S T :=
  ⟨h.row.of_block (hb.block _ h.row.lt), row_below h.l hb, h.a.below hb, h.bel.trans (hb.mono h.bs), block_below h.pa hb, block_below h.pb hb, block_below h.res hb, h.nb, h.kS, h.kT, h.kg, Nat.le_trans h.bs hb.size⟩
theorem TW.drew (h : TW w wr pk ba P Q N m L v vS vT S T) : TW w wr.drew pk ba P Q N m L v vS vT S T := h.below ((Below.refl _ wr).drew)
theorem TW.drewN (h : TW w wr pk ba P Q N m L v vS vT S T) (k : Nat) : TW w (wr.drewN k) pk ba P Q N m L v vS vT S T := h.below (below_drewN (Below.refl _ wr) k)
theorem TW.alloc (h : TW w wr pk ba P Q N m L v vS vT S T) (o : Obj) : TW w (wr.alloc o) pk ba P Q N m L v vS vT S T := h.below (below1 _ _)
/-- A store into another box of a pair. -/
theorem TW.setTo (h : TW w wr pk ba P Q N m L v vS vT S T) {tb j : Nat} {cs : Array Value} (hb : wr.heap[tb]? = some (.cells cs 98 (0, 0))) (hne : some tb ≠ v.ownBlock) (hge : w.heap.size ≤ tb) (x : Value) : TW w (wr.setCell ⟨tb, j, none⟩ x) pk ba P Q N m L v vS vT S T := by
  have c : ∀ {i : Nat} {cs' : Array Value} {t : TypeId}, wr.heap[i]? = some (.cells cs' t (0, 0)) → t ≠ 98 → i ≠ tb := fun hc ht => ty_ne hc hb ht
  obtain ⟨ck, hck⟩ := h.pk_blk
  have hC : CH wr (wr.setCell ⟨tb, j, none⟩ x) (fun i => i = tb) := ⟨by simp, rfl, rfl, rfl, fun i hi he => set_ne rfl he _⟩
  refine ⟨h.row.of_block (set_ne rfl (c hck (by decide)) _), hC.row h.l (fun g hg e => hne (by rw [← e]; exact hg.symm)), h.a.ch hC (c h.a.a (by decide)) (fun g hg => ?_) (fun g hg => ?_), h.bel.trans (hC.below (fun i e => by subst e; exact hge) h.bs), hC.cells h.pa (c h.pa (by decide)), hC.cells h.pb (c h.pb (by decide)), hC.cells h.res (c h.res (by decide)), h.nb, h.kS, h.kT, h.kg, by simpa using h.bs⟩
  · obtain ⟨_, cur, hc⟩ := row_lt h.a.rS hg
    exact c hc (by decide)
  · obtain ⟨_, cur, hc⟩ := row_lt h.a.rT hg
    exact c hc (by decide)
/-- A new pair is put at the end, its place is put down. -/
theorem TW.push (h : TW w wr pk ba P Q N m L v vS vT S T) {t : Nat} {o : Obj} (hx : t ∉ L) (hown : w'.ownsRow w.heap.size 98 2 v' (L.length + 1) (pfl (L.map (dec m)) ++ [.int .i64 ((t / m : Nat) : Int), .int .i64 ((t % m : Nat) : Int)])) (hg : (wr.alloc o).grownBy w' v.ownBlock) :
    TW w (w'.setCell ⟨pk, t, none⟩ (.int .i64 ((L.length + 1 : Nat) : Int))) pk ba P Q N m (L ++ [t]) v' vS vT S T := by
  obtain ⟨ck, hck⟩ := h.pk_blk
  have c : ∀ {i : Nat} {cs' : Array Value} {u : TypeId}, wr.heap[i]? = some (.cells cs' u (0, 0)) → u ≠ 98 → w'.heap[i]? = some (.cells cs' u (0, 0)) := fun hc hu =>
    (hg.block _ (by have := lt_of_block hc; simp; omega) (row_neC h.l hc hu)).trans (block_alloc hc o)
  have hck' := c hck (by decide)
  have d : ∀ {i : Nat} {cs' : Array Value} {u : TypeId}, wr.heap[i]? = some (.cells cs' u (0, 0)) → u ≠ 3 → i ≠ pk := fun hc hu => ty_ne hc hck hu
  have hs := hg.size
  simp at hs
  have hC : CH wr (w'.setCell ⟨pk, t, none⟩ (.int .i64 ((L.length + 1 : Nat) : Int))) (fun i => i = pk ∨ some i = v.ownBlock) :=
    ⟨by simp; omega, hg.os, hg.tape, hg.output, fun i hi he => set_ne ((hg.block i (by simp; omega) (fun e => he (.inr e))).trans ((below1 wr o).block i hi)) (fun e => he (.inl e)) _⟩
  have ne : ∀ {i : Nat} {cs' : Array Value} {u : TypeId}, wr.heap[i]? = some (.cells cs' u (0, 0)) → u ≠ 3 → u ≠ 98 → ¬ (i = pk ∨ some i = v.ownBlock) := fun hc h1 h2 => by
    rintro (e | e)
    · exact d hc h1 e
    · exact row_neC h.l hc h2 e
  refine ⟨World.rowIs.congr ((h.row.of_block (w' := w') (hck'.trans hck.symm)).set t _) fun j _ => ?_, ?_, h.a.ch hC (ne h.a.a (by decide) (by decide)) (fun g hg' => ?_) (fun g hg' => ?_), h.bel.trans (hC.below (fun i e => ?_) h.bs), hC.cells h.pa (ne h.pa (by decide) (by decide)), hC.cells h.pb (ne h.pb (by decide) (by decide)), hC.cells h.res (ne h.res (by decide) (by decide)), h.nb, h.kS, h.kT, h.kg, by have := h.bs; simp; omega⟩
  · rw [plx_push hx]
    by_cases e : j = t <;> simp [e]
  · rw [List.length_append, List.map_append, List.map_cons, List.map_nil, pfl_app]
    refine row_keep hown fun g hg' => set_ne rfl (fun e => ?_) _
    subst e
    exact row_neC hown hck' (by decide) hg'.symm
  · obtain ⟨_, cur, hc⟩ := row_lt h.a.rS hg'
    rintro (e | e)
    · subst e; exact h.kS hg'.symm
    · exact row_neC h.l hc (by decide) e
  · obtain ⟨_, cur, hc⟩ := row_lt h.a.rT hg'
    rintro (e | e)
    · subst e; exact h.kT hg'.symm
    · exact row_neC h.l hc (by decide) e
  · rcases e with e | e
    · subst e; exact h.kg
    · exact (row_lt h.l e.symm).1
theorem TW.app (h : TW w wr pk ba P Q N m L v vS vT S T) {u : Value} (hv : u = vS ∨ u = vT) (hg : wr.grownBy w' u.ownBlock) : w'.heap[ba]? = some (.cells #[vS, vT] 24 (0, 0)) := by
  refine (hg.block _ (lt_of_block h.a.a) ?_).trans h.a.a
  rcases hv with rfl | rfl
  · exact row_neC h.a.rS h.a.a (by decide)
  · exact row_neC h.a.rT h.a.a (by decide)
theorem TW.pushS (h : TW w wr pk ba P Q N m L v vS vT S T) {x g cap : Nat} (hown : w'.ownsRow w.heap.size 3 1 (.slice (some ⟨g, 0, none⟩) (S.length + 1) cap) (S.length + 1) (is S ++ [.int .i64 (x : Nat)])) (hg : wr.grownBy w' vS.ownBlock) (hat : vS.ownBlock = some g ∨ g = wr.heap.size) :
    TW w (w'.setCell ⟨ba, 0, none⟩ (.slice (some ⟨g, 0, none⟩) (S.length + 1) cap)) pk ba P Q N m L v (.slice (some ⟨g, 0, none⟩) (S.length + 1) cap) vT (S ++ [x]) T := by
  have ha := h.app (.inl rfl) hg
  obtain ⟨ck, hck⟩ := h.pk_blk
  have hC : CH wr (w'.setCell ⟨ba, 0, none⟩ (.slice (some ⟨g, 0, none⟩) (S.length + 1) cap)) (fun i => i = ba ∨ some i = vS.ownBlock) :=
    ⟨by have := hg.size; simpa using this, hg.os, hg.tape, hg.output, fun i hi he => set_ne (hg.block i hi (fun e => he (.inr e))) (fun e => he (.inl e)) _⟩
  have nb : ∀ {i : Nat} {cs : Array Value} {t : TypeId}, w'.heap[i]? = some (.cells cs t (0, 0)) → t ≠ 24 → i ≠ ba := fun hc ht e => ty_ne hc ha ht e
  have bx : ∀ {i : Nat} {cs : Array Value}, wr.heap[i]? = some (.cells cs 24 (0, 0)) → i ≠ ba → ¬ (i = ba ∨ some i = vS.ownBlock) := fun hc hne => by
    rintro (e | e)
    · exact hne e
    · exact row_neC h.a.rS hc (by decide) e
  have hnb := h.nb
  refine ⟨h.row.of_block (hC.rest pk h.row.lt ?_), hC.row h.l (fun g' h1 => ?_), ⟨?_, ?_, ?_, fun g' h1 h2 => ?_, h.a.ge⟩, h.bel.trans (hC.below ?_ h.bs), hC.cells h.pa (bx h.pa (by omega)), hC.cells h.pb (bx h.pb (by omega)), hC.cells h.res (bx h.res (by omega)), h.nb, ?_, h.kT, h.kg, Nat.le_trans h.bs hC.grown⟩
  · rintro (e | e)
    · exact ty_ne hck h.a.a (by decide) e
    · exact h.kS e
  · obtain ⟨_, cur, hc⟩ := row_lt h.l h1
    rintro (e | e)
    · exact ty_ne hc h.a.a (by decide) e
    · exact row_neC h.a.rS hc (by decide) e
  · exact heap_setCell_same _ ba 0 #[vS, vT] _ _ ha
  · rw [show (S ++ [x]).length = S.length + 1 from by simp, show is (S ++ [x]) = is S ++ [.int .i64 (x : Nat)] from by simp [is]]
    exact row_keep hown fun g' h1 => by
      obtain ⟨_, cur, hc⟩ := row_lt hown h1
      exact set_ne rfl (nb hc (by decide)) _
  · refine row_keep h.a.rT fun g' h1 => ?_
    obtain ⟨_, cur, hc⟩ := row_lt h.a.rT h1
    have h2 : some g' ≠ vS.ownBlock := fun e => h.a.ap g' e.symm h1
    have h3 := hg.block g' (lt_of_block hc) h2
    exact set_ne h3 (nb (h3.trans hc) (by decide)) _
  · cases h1
    obtain ⟨_, cur, hc⟩ := row_lt h.a.rT h2
    rcases hat with e | e
    · exact h.a.ap _ e h2
    · have h9 : g < wr.heap.size := lt_of_block hc
      omega
  · rintro i (e | e)
    · rw [e]; exact h.a.ge
    · exact (row_lt h.a.rS e.symm).1
  · intro e
    have h9 := lt_of_block hck
    have e2 : pk = g := by simpa [Value.ownBlock] using e
    rcases hat with e3 | e3
    · exact h.kS (by rw [e2]; exact e3.symm)
    · omega
theorem TW.pushT (h : TW w wr pk ba P Q N m L v vS vT S T) {x g cap : Nat} (hown : w'.ownsRow w.heap.size 3 1 (.slice (some ⟨g, 0, none⟩) (T.length + 1) cap) (T.length + 1) (is T ++ [.int .i64 (x : Nat)])) (hg : wr.grownBy w' vT.ownBlock) (hat : vT.ownBlock = some g ∨ g = wr.heap.size) :
    TW w (w'.setCell ⟨ba, 1, none⟩ (.slice (some ⟨g, 0, none⟩) (T.length + 1) cap)) pk ba P Q N m L v vS (.slice (some ⟨g, 0, none⟩) (T.length + 1) cap) S (T ++ [x]) := by
  have ha := h.app (.inr rfl) hg
  obtain ⟨ck, hck⟩ := h.pk_blk
  have hC : CH wr (w'.setCell ⟨ba, 1, none⟩ (.slice (some ⟨g, 0, none⟩) (T.length + 1) cap)) (fun i => i = ba ∨ some i = vT.ownBlock) :=
    ⟨by have := hg.size; simpa using this, hg.os, hg.tape, hg.output, fun i hi he => set_ne (hg.block i hi (fun e => he (.inr e))) (fun e => he (.inl e)) _⟩
  have nb : ∀ {i : Nat} {cs : Array Value} {t : TypeId}, w'.heap[i]? = some (.cells cs t (0, 0)) → t ≠ 24 → i ≠ ba := fun hc ht e => ty_ne hc ha ht e
  have bx : ∀ {i : Nat} {cs : Array Value}, wr.heap[i]? = some (.cells cs 24 (0, 0)) → i ≠ ba → ¬ (i = ba ∨ some i = vT.ownBlock) := fun hc hne => by
    rintro (e | e)
    · exact hne e
    · exact row_neC h.a.rT hc (by decide) e
  have hnb := h.nb
  refine ⟨h.row.of_block (hC.rest pk h.row.lt ?_), hC.row h.l (fun g' h1 => ?_), ⟨?_, ?_, ?_, fun g' h1 h2 => ?_, h.a.ge⟩, h.bel.trans (hC.below ?_ h.bs), hC.cells h.pa (bx h.pa (by omega)), hC.cells h.pb (bx h.pb (by omega)), hC.cells h.res (bx h.res (by omega)), h.nb, h.kS, ?_, h.kg, Nat.le_trans h.bs hC.grown⟩
  · rintro (e | e)
    · exact ty_ne hck h.a.a (by decide) e
    · exact h.kT e
  · obtain ⟨_, cur, hc⟩ := row_lt h.l h1
    rintro (e | e)
    · exact ty_ne hc h.a.a (by decide) e
    · exact row_neC h.a.rT hc (by decide) e
  · exact heap_setCell_same _ ba 1 #[vS, vT] _ _ ha
  · refine row_keep h.a.rS fun g' h1 => ?_
    obtain ⟨_, cur, hc⟩ := row_lt h.a.rS h1
    have h2 : some g' ≠ vT.ownBlock := fun e => h.a.ap g' h1 e.symm
    have h3 := hg.block g' (lt_of_block hc) h2
    exact set_ne h3 (nb (h3.trans hc) (by decide)) _
  · rw [show (T ++ [x]).length = T.length + 1 from by simp, show is (T ++ [x]) = is T ++ [.int .i64 (x : Nat)] from by simp [is]]
    exact row_keep hown fun g' h1 => by
      obtain ⟨_, cur, hc⟩ := row_lt hown h1
      exact set_ne rfl (nb hc (by decide)) _
  · cases h2
    obtain ⟨_, cur, hc⟩ := row_lt h.a.rS h1
    rcases hat with e | e
    · exact h.a.ap _ h1 e
    · have h9 : g < wr.heap.size := lt_of_block hc
      omega
  · rintro i (e | e)
    · rw [e]; exact h.a.ge
    · exact (row_lt h.a.rT e.symm).1
  · intro e
    have h9 := lt_of_block hck
    have e2 : pk = g := by simpa [Value.ownBlock] using e
    rcases hat with e3 | e3
    · exact h.kT (by rw [e2]; exact e3.symm)
    · omega
/-- The pair at a place of the list. -/
theorem TW.at_ (h : TW w wr pk ba P Q N m L v vS vT S T) {i : Nat} (hi : i < L.length) : ∃ g cap, v = .slice (some ⟨g, 0, none⟩) L.length cap ∧ g < wr.heap.size ∧
    wr.cell? ⟨g, i * 2, none⟩ = some (.int .i64 ((L.getD i 0 / m : Nat) : Int)) ∧ wr.cell? ⟨g, i * 2 + 1, none⟩ = some (.int .i64 ((L.getD i 0 % m : Nat) : Int)) := by
  have h2 := h.l.2
  rcases h2 with ⟨_, h0⟩ | ⟨g, cap, cur, hv, hb, hg, _⟩
  · omega
  · have hc : ∀ j u, (pfl (L.map (dec m)))[j]? = some u → wr.cell? ((⟨g, 0, none⟩ : Addr).add j) = some u := h.l.cells (by rw [hv]; rfl)
    obtain ⟨m1, m2⟩ := pfl_at (L.map (dec m)) i (by simpa using hi)
    rw [getD_dec hi] at m1 m2
    have e : ∀ j, (⟨g, 0, none⟩ : Addr).add j = ⟨g, j, none⟩ := fun j => by unfold Addr.add; split <;> simp_all
    refine ⟨g, cap, hv, lt_of_block hg, ?_, ?_⟩
    · rw [← e]; exact hc _ _ (by rw [Nat.mul_comm]; exact m1)
    · rw [← e]; exact hc _ _ (by rw [Nat.mul_comm]; exact m2)
end
theorem mk_int3 (n : Nat) (W : World) (hn : n ≤ 1327104) : (Instr.makeSlice 22 (.int .i64 (n : Int)) (.int .i64 (n : Int))).run Try.prog W = .ok (.slice (some ⟨W.heap.size, 0, none⟩) n n) (W.alloc (.cells (madeCells #[.int .i64 0] n) 3)) := by
  obtain ⟨i1, hj, y0, y1, y2⟩ := info_parts Try.infoInt
  have h := run_make (P := Try.prog) W 22 3 i1 (.int .i64 0) Try.underlying22 hj y0 .i64 .i64 (n : Int) (n : Int) (by omega) (by omega) (by rw [y2]; omega) (by omega)
  rw [show ((n : Int)).toNat = n by omega, y1, Nat.mul_one] at h
  exact h
def t5 (w : World) (P Q : Array Value) (N : Nat) : World := (((w.alloc (.cells P 24)).alloc (.cells Q 24)).alloc (.cells #[.slice none 0 0, .slice none 0 0] 24)).alloc (.cells (madeCells #[.int .i64 0] N) 3)
/-- The loop's first world. -/
theorem tw_start (w : World) (P Q : Array Value) (N m : Nat) (hN : 0 < N) :
    TW w ((((t5 w P Q N).setCell ⟨w.heap.size + 1 + 1 + 1, 0, none⟩ (.int .i64 1)).alloc (.cells #[.int .i64 0, .int .i64 0] 98)).alloc (.cells #[.slice none 0 0, .slice none 0 0] 24)) (w.heap.size + 1 + 1 + 1) (w.heap.size + 1 + 1 + 1 + 1 + 1) P Q N m [0] (.slice (some ⟨w.heap.size + 1 + 1 + 1 + 1, 0, none⟩) 1 1) (.slice none 0 0) (.slice none 0 0) [] [] := by
  have at_ : ∀ (W : World) (o : Obj) {g : Nat}, g = W.heap.size → (W.alloc o).heap[g]? = some o := fun W o g hg => by rw [hg]; exact heap_alloc_new W o
  have s5 : (t5 w P Q N).heap.size = w.heap.size + 4 := by simp [t5]
  have h0 : (t5 w P Q N).heap[w.heap.size]? = some (.cells P 24 (0, 0)) := block_alloc (block_alloc (block_alloc (at_ _ _ rfl) _) _) _
  have h1 : (t5 w P Q N).heap[w.heap.size + 1]? = some (.cells Q 24 (0, 0)) := block_alloc (block_alloc (at_ _ _ (by simp)) _) _
  have h2 : (t5 w P Q N).heap[w.heap.size + 1 + 1]? = some (.cells #[.slice none 0 0, .slice none 0 0] 24 (0, 0)) := block_alloc (at_ _ _ (by simp)) _
  have hr : (t5 w P Q N).rowIs (w.heap.size + 1 + 1 + 1) 3 N (fun _ => .int .i64 0) := by
    have := World.rowIs_made (((w.alloc (.cells P 24)).alloc (.cells Q 24)).alloc (.cells #[.slice none 0 0, .slice none 0 0] 24)) (.int .i64 0) N 3
    simpa [t5] using this
  have hb : Below w.heap.size w (t5 w P Q N) := below4 w _ _ _ _
  have hr2 : ((t5 w P Q N).setCell ⟨w.heap.size + 1 + 1 + 1, 0, none⟩ (.int .i64 1)).rowIs (w.heap.size + 1 + 1 + 1) 3 N (fun p => .int .i64 (plx [0] p : Nat)) := by
    refine World.rowIs.congr (hr.set 0 (.int .i64 1)) fun j _ => ?_
    by_cases e : j = 0
    · subst e; simp [plx]
    · simp [plx, e]
  have hb2 : Below w.heap.size w ((((t5 w P Q N).setCell ⟨w.heap.size + 1 + 1 + 1, 0, none⟩ (.int .i64 1)).alloc (.cells #[.int .i64 0, .int .i64 0] 98)).alloc (.cells #[.slice none 0 0, .slice none 0 0] 24)) :=
    (((hb.setCell (by show _ ≤ w.heap.size + 1 + 1 + 1; omega) _).trans ((below2 _ _ _).mono (by simp [s5]))))
  refine ⟨(hr2.alloc _).alloc _, ⟨rfl, .inr ⟨w.heap.size + 1 + 1 + 1 + 1, 1, _, rfl, by omega, block_alloc (at_ _ _ (by simp [s5])) _, Nat.le_refl 1, by unfold maxLen; omega, rfl, by simp [dec, pfl]⟩⟩,
    ⟨at_ _ _ (by simp [s5]), ⟨rfl, .inl ⟨rfl, rfl⟩⟩, ⟨rfl, .inl ⟨rfl, rfl⟩⟩, fun g hg => (by cases hg), by omega⟩, hb2, block_alloc (block_alloc (set_ne h0 (by omega) _) _) _, block_alloc (block_alloc (set_ne h1 (by omega) _) _) _, block_alloc (block_alloc (set_ne h2 (by omega) _) _) _, by omega, by simp [Value.ownBlock], by simp [Value.ownBlock], by omega, hb2.size⟩
end Go.Proofs.Ytjofmgnggeoimaa
namespace Go.Proofs.Ytjofmgnggeoimaa
open Go.RowKit
set_option linter.unusedVariables false
set_option linter.unusedSimpArgs false

def StopD (p : Prop) : Prop := p
theorem stopD {p : Prop} (h : StopD p) : p := h
theorem infoPr : (Try.prog.info? 98).map (fun i => (i.zero, i.size, i.bytes)) = some (some (.agg #[.int .i64 0, .int .i64 0]), 2, 16) := by kernel_rfl
/-- One round in the words of the list of numbers. -/
theorem tround {g f g' f' : Nat → Nat} {n m i : Nat} (hg : Prm g n) (hf : Prm f n) (hg' : Prm g' m) (hf' : Prm f' m) (h0 : 0 < n * m) (hi : i < (bst (eG g g' m) (eG f f' m) 0 i).length) :
    ∃ p a b, p < n * m ∧ a < n ∧ b < m ∧ p / m = a ∧ p % m = b ∧ i < orbN (eG g g' m) (eG f f' m) (n * m) 0 ∧ (bst (eG g g' m) (eG f f' m) 0 i).getD i 0 = p ∧
      bst (eG g g' m) (eG f f' m) 0 (i + 1) = lst2 (eG g g' m) (eG f f' m) (bst (eG g g' m) (eG f f' m) 0 i) p 2 ∧
      (rS (eG g g' m) (eG f f' m) (n * m) 0).take (i + 1) = (rS (eG g g' m) (eG f f' m) (n * m) 0).take i ++ [(vis (bst (eG g g' m) (eG f f' m) 0 i) (eG g g' m p)).idxOf (eG g g' m p)] ∧
      (rT (eG g g' m) (eG f f' m) (n * m) 0).take (i + 1) = (rT (eG g g' m) (eG f f' m) (n * m) 0).take i ++ [(vis (vis (bst (eG g g' m) (eG f f' m) 0 i) (eG g g' m p)) (eG f f' m p)).idxOf (eG f f' m p)] := by
  have hG := eG_prm hg hg'
  have hF := eG_prm hf hf'
  obtain ⟨r1, r2, r3, r4⟩ := round_at hG hF h0 hi
  have hp := ord_ltR hG hF h0 i r1
  rw [r2] at r3 r4
  have hs := bst_step hi
  rw [r2] at hs
  refine ⟨ordO (eG g g' m) (eG f f' m) (n * m) 0 i, _, _, hp, fst_lt hp, snd_lt hp, rfl, rfl, r1, r2, hs, ?_, ?_⟩
  · rw [r3]; exact rS_take r1
  · rw [← hs, r4]; exact rT_take r1
theorem TW.row_app {w wr w' : World} {pk ba : Nat} {P Q : Array Value} {N m : Nat} {L : List Nat} {v vS vT : Value} {S T : List Nat} {o : Obj} (h : TW w wr pk ba P Q N m L v vS vT S T) (hg : (wr.alloc o).grownBy w' v.ownBlock) : w'.rowIs pk 3 N (fun p => .int .i64 (plx L p : Nat)) := by
  obtain ⟨ck, hck⟩ := h.pk_blk
  exact h.row.of_block ((hg.block _ (by have := lt_of_block hck; simp; omega) (row_neC h.l hck (by decide))).trans ((below1 wr o).block _ (lt_of_block hck)))
def sJ (S : List Nat) (x : Nat) : Nat → List Nat
  | 0 => S
  | _ + 1 => S ++ [x]
def tJ (T : List Nat) (y : Nat) : Nat → List Nat
  | 0 => T
  | 1 => T
  | _ + 2 => T ++ [y]
/-- The numbers of a step's target. -/
theorem eg_two {g g' : Nat → Nat} {m p a b : Nat} (ha : p / m = a) (hb : p % m = b) : eG g g' m p = g a * m + g' b := by unfold eG; rw [ha, hb]
theorem vis_len2 (l : List Nat) (x : Nat) : (vis l x).length ≤ l.length + 1 := by unfold vis; split <;> simp
set_option maxHeartbeats 12800000 in
set_option maxRecDepth 1000000 in
theorem rtog_any {g f g' f' : Nat → Nat} {n m lim bS oS bT oT bS' oS' bT' oT' cS cT cS' cT' : Nat} (w : World) (hg : Prm g n) (hf : Prm f n) (hg' : Prm g' m) (hf' : Prm f' m) (hn : n ≤ 1152) (hm : m ≤ 1152) (h0 : 0 < n) (h0' : 0 < m) (hl1 : 1 ≤ lim) (hl2 : lim ≤ 1152)
    (hS : RdN w w.heap.size bS oS n g) (hT : RdN w w.heap.size bT oT n f) (hS' : RdN w w.heap.size bS' oS' m g') (hT' : RdN w w.heap.size bT' oT' m f') :
    Calls Try.prog 54 #[.agg #[.slice (some ⟨bS, oS, none⟩) n cS, .slice (some ⟨bT, oT, none⟩) n cT], .agg #[.slice (some ⟨bS', oS', none⟩) m cS', .slice (some ⟨bT', oT', none⟩) m cT'], .int .i64 (lim : Nat)] w fun e w' => IntEnd (eG g g' m) (eG f f' m) (n * m) lim w e w' := by
  obtain ⟨i0, hi, z0, z1, z2⟩ := info_parts infoIP
  obtain ⟨iP, hiP, y0, y1, y2⟩ := info_parts infoPr
  have HL := Lib.hid (And.intro hS (And.intro hT (And.intro hS' hT')))
  have HG := Lib.hid (And.intro hg (And.intro hf (And.intro hg' hf')))
  clear hS hT hS' hT' hg hf hg' hf'
  obtain ⟨P, hP⟩ : ∃ P : Array Value, P = #[.slice (some ⟨bS, oS, none⟩) n cS, .slice (some ⟨bT, oT, none⟩) n cT] := ⟨_, rfl⟩
  obtain ⟨Q, hQ⟩ : ∃ Q : Array Value, Q = #[.slice (some ⟨bS', oS', none⟩) m cS', .slice (some ⟨bT', oT', none⟩) m cT'] := ⟨_, rfl⟩
  obtain ⟨N, HN⟩ : ∃ N, Hid (N = n * m) := ⟨_, rfl⟩
  have hN0 : 0 < N := by rw [HN.out]; exact Nat.mul_pos h0 h0'
  have hN2 : N ≤ 1327104 := by rw [HN.out]; exact Nat.le_trans (Nat.mul_le_mul hn hm) (by decide)
  have HNi : (n : Int) * (m : Int) = (N : Int) := by rw [HN.out]; simp
  have huN : IntKind.i64.wrap ((n : Int) * (m : Int)) = (N : Int) := by rw [HNi]; exact IntWalk.i64_in _ (by omega)
  clear HNi
  rw [← HN.out]
  have hmk := fun W => mk_int3 N W hN2
  have HV := Lib.hid (tw_start w P Q N m hN0)
  have hN0i : (0 : Int) < (N : Int) := by omega
  have HP := Lib.hid hP
  have HQ := Lib.hid hQ
  clear hP hQ
  go_enter Try.func54, Try.ntmps54
  go_upto_region 2 with fail
  obtain ⟨W1, hW1⟩ : ∃ W1, W1 = t5 w P Q N := ⟨_, rfl⟩
  have hW1' := hW1
  have hWs : W1.heap.size = w.heap.size + 1 + 1 + 1 + 1 := by rw [hW1]; simp [t5]
  have HR0 : Hid (W1.rowIs (w.heap.size + 1 + 1 + 1) 3 N (fun _ => .int .i64 0)) := by
    have := World.rowIs_made (((w.alloc (.cells P 24)).alloc (.cells Q 24)).alloc (.cells #[.slice none 0 0, .slice none 0 0] 24)) (.int .i64 0) N 3
    show World.rowIs _ _ _ _ _
    rw [hW1]
    simpa [t5] using this
  unfold t5 at hW1'
  rw [HP.out, HQ.out] at hW1'
  rw [← hW1']
  rw [← hW1] at HV
  clear hW1 hW1' hmk huN
  have hcs := HR0.out.cell (i := 0) hN0
  have hfz := HR0.out.frozen 0
  have hrlt := HR0.out.lt
  go_wp2
  obtain ⟨W2, hW2⟩ : ∃ W2, W2 = (((W1.setCell ⟨w.heap.size + 1 + 1 + 1, 0, none⟩ (.int .i64 1)).alloc (.cells #[.int .i64 0, .int .i64 0] 98)).alloc (.cells #[.slice none 0 0, .slice none 0 0] 24)) := ⟨_, rfl⟩
  rw [← hW2] at HV ⊢
  clear hW2 hcs hfz hrlt HR0 hWs
  obtain ⟨pk, hpk⟩ : ∃ pk, pk = w.heap.size + 1 + 1 + 1 := ⟨_, rfl⟩
  obtain ⟨X, HX⟩ : ∃ X, Hid (X = orbN (eG g g' m) (eG f f' m) N 0) := ⟨_, rfl⟩
  obtain ⟨ba, hba⟩ : ∃ ba, ba = w.heap.size + 1 + 1 + 1 + 1 + 1 := ⟨_, rfl⟩
  rw [← hba] at HV ⊢
  rw [← hpk] at HV ⊢
  have hpk2 : w.heap.size + 1 + 1 < pk := by omega
  clear hpk hba
  go_loopw [9, 11, 12, 13, 14] (fun V I _ _ _ wr => ∃ (i : Nat) (A : Option Addr) (c : Nat) (vS vT : Value), V = .slice A (bst (eG g g' m) (eG f f' m) 0 i).length c ∧ I = .int .i64 (i : Nat) ∧ i ≤ X ∧ (bst (eG g g' m) (eG f f' m) 0 i).length ≤ lim ∧ Hid (TW w wr pk ba P Q N m (bst (eG g g' m) (eG f f' m) 0 i) (.slice A (bst (eG g g' m) (eG f f' m) 0 i).length c) vS vT ((rS (eG g g' m) (eG f f' m) N 0).take i) ((rT (eG g g' m) (eG f f' m) N 0).take i))) (fun _ I _ _ _ _ => X - (intOf I).toNat)
  case atStart => exact ⟨0, some ⟨pk + 1, 0, none⟩, 1, _, _, rfl, rfl, Nat.zero_le _, by simpa [bst] using hl1, HV⟩
  case round =>
    clear HV
    obtain ⟨i, A, c, vS, vT, rfl, rfl, hiX, hil, HV⟩ := hrel
    by_cases hlt : i < (bst (eG g g' m) (eG f f' m) 0 i).length
    · obtain ⟨p, a, b, hpN, ha, hb, hpa, hpb, hiN, hpi, hb2, hrs, hrt⟩ := tround (n := n) HG.out.1 HG.out.2.1 HG.out.2.2.1 HG.out.2.2.2 (by rw [← HN.out]; exact hN0) hlt
      rw [← HN.out] at hpN hiN hrs hrt
      rw [← HX.out] at hiN
      have HB2 := Lib.hid hb2
      have HRS := Lib.hid hrs
      have HRT := Lib.hid hrt
      have HPi := Lib.hid hpi
      clear hb2 hrs hrt hpi
      have hsl : ((rS (eG g g' m) (eG f f' m) N 0).take i).length = i := by rw [List.length_take, rS_len, ← HX.out]; omega
      have htl : ((rT (eG g g' m) (eG f f' m) N 0).take i).length = i := by rw [List.length_take, rT_len, ← HX.out]; omega
      have HBn : Hid (∀ {L : List Nat}, L = bst (eG g g' m) (eG f f' m) 0 (i + 1) → lim < L.length → lim < X) := fun {L} hL hlen => by
        rw [hL] at hlen
        rw [HX.out, HN.out]
        exact bst_over (eG_prm HG.out.1 HG.out.2.2.1) (eG_prm HG.out.2.1 HG.out.2.2.2) (by rw [← HN.out]; exact hN0) hlt hlen
      have hGl : eG g g' m p < N := by rw [HN.out] at hpN ⊢; exact (eG_prm HG.out.1 HG.out.2.2.1).lt p hpN
      have hFl : eG f f' m p < N := by rw [HN.out] at hpN ⊢; exact (eG_prm HG.out.2.1 HG.out.2.2.2).lt p hpN
      have HGe := Lib.hid (eg_two (g := g) (g' := g') hpa hpb)
      have HFe := Lib.hid (eg_two (g := f) (g' := f') hpa hpb)
      have hga := HG.out.1.lt a ha
      have hfa := HG.out.2.1.lt a ha
      have hgb := HG.out.2.2.1.lt b hb
      have hfb := HG.out.2.2.2.lt b hb
      have hpN' : p < n * m := by rw [← HN.out]; exact hpN
      have HGd : Hid (eG g g' m p / m = g a ∧ eG g g' m p % m = g' b) := ⟨by rw [eG_fst HG.out.2.2.1 hpN', hpa], by rw [eG_snd HG.out.2.2.1 hpN', hpb]⟩
      have HFd : Hid (eG f f' m p / m = f a ∧ eG f f' m p % m = f' b) := ⟨by rw [eG_fst HG.out.2.2.2 hpN', hpa], by rw [eG_snd HG.out.2.2.2 hpN', hpb]⟩
      have HPd := Lib.hid (And.intro hpa hpb)
      clear hpa hpb hpN'
      obtain ⟨x, hx⟩ : ∃ x, x = (vis (bst (eG g g' m) (eG f f' m) 0 i) (eG g g' m p)).idxOf (eG g g' m p) := ⟨_, rfl⟩
      obtain ⟨y, hy⟩ : ∃ y, y = (vis (vis (bst (eG g g' m) (eG f f' m) 0 i) (eG g g' m p)) (eG f f' m p)).idxOf (eG f f' m p) := ⟨_, rfl⟩
      rw [← hx] at HRS
      rw [← hy] at HRT
      have HXe := Lib.hid hx
      have HYe := Lib.hid hy
      clear hx hy
      go_wp2
      go_loopw [9, 12, 13, 14] (fun V J _ _ wi => ∃ (j : Nat) (A : Option Addr) (c : Nat) (vS vT : Value), V = .slice A (lst2 (eG g g' m) (eG f f' m) (bst (eG g g' m) (eG f f' m) 0 i) p j).length c ∧ J = .int .i64 (j : Nat) ∧ j ≤ 2 ∧ Hid (TW w wi pk ba P Q N m (lst2 (eG g g' m) (eG f f' m) (bst (eG g g' m) (eG f f' m) 0 i) p j) (.slice A (lst2 (eG g g' m) (eG f f' m) (bst (eG g g' m) (eG f f' m) 0 i) p j).length c) vS vT (sJ ((rS (eG g g' m) (eG f f' m) N 0).take i) x j) (tJ ((rT (eG g g' m) (eG f f' m) N 0).take i) y j))) (fun _ J _ _ _ => 2 - (intOf J).toNat)
      case atStart => exact ⟨0, A, c, vS, vT, rfl, rfl, by omega, HV.out⟩
      case round =>
        clear HV
        obtain ⟨j, A', c', vS, vT, rfl, rfl, hj, HV⟩ := hrel
        by_cases hj2 : j < 2
        · have hji : (j : Int) < 2 := by omega
          obtain ⟨hk1, hk2⟩ := lst2_len (eG g g' m) (eG f f' m) (bst (eG g g' m) (eG f f' m) 0 i) p j hj
          have hgt := lst2_get (g := eG g g' m) (f := eG f f' m) (x := p) hlt j hj
          rw [HPi.out] at hgt
          have hMl : (lst2 (eG g g' m) (eG f f' m) (bst (eG g g' m) (eG f f' m) 0 i) p j).length ≤ 1154 := by
            have e1 := vis_len2 (bst (eG g g' m) (eG f f' m) 0 i) (eG g g' m p)
            have e2 := vis_len2 (vis (bst (eG g g' m) (eG f f' m) 0 i) (eG g g' m p)) (eG f f' m p)
            omega
          have HJ : Hid (j = 0 ∨ j = 1) := by show j = 0 ∨ j = 1; omega
          obtain ⟨M, hM⟩ : ∃ M, M = lst2 (eG g g' m) (eG f f' m) (bst (eG g g' m) (eG f f' m) 0 i) p j := ⟨_, rfl⟩
          obtain ⟨S0, hS0⟩ : ∃ S0, S0 = sJ ((rS (eG g g' m) (eG f f' m) N 0).take i) x j := ⟨_, rfl⟩
          obtain ⟨T0, hT0⟩ : ∃ T0, T0 = tJ ((rT (eG g g' m) (eG f f' m) N 0).take i) y j := ⟨_, rfl⟩
          rw [← hM] at HV hk1 hMl hgt ⊢
          rw [← hS0, ← hT0] at HV
          have HM := Lib.hid hM
          have HS0 := Lib.hid hS0
          have HT0 := Lib.hid hT0
          clear hM hS0 hT0
          have hiM : i < M.length := by omega
          have hiMi : (i : Int) < (M.length : Int) := by omega
          have hai : (a : Int) < (n : Int) := by omega
          have hbi : (b : Int) < (m : Int) := by omega
          obtain ⟨g1, c1, hv1, hg1, q1, q2⟩ := HV.out.at_ hiM
          obtain ⟨rfl, rfl⟩ : A' = some ⟨g1, 0, none⟩ ∧ c' = c1 := by simpa using hv1
          clear hv1 q1 q2
          have HHd : Hid (∀ {w' : World} {vS vT : Value} {S T : List Nat}, TW w w' pk ba P Q N m M (.slice (some ⟨g1, 0, none⟩) M.length c') vS vT S T →
              ((w'.cell? ⟨w.heap.size, 0, none⟩ = some (.slice (some ⟨bS, oS, none⟩) n cS) ∧ w'.cell? ⟨w.heap.size + 1, 0, none⟩ = some (.slice (some ⟨bS', oS', none⟩) m cS')) ∧ (w'.cell? ⟨g1, i * 2, none⟩ = some (.int .i64 (a : Nat)) ∧ w'.cell? ⟨g1, i * 2 + 1, none⟩ = some (.int .i64 (b : Nat))) ∧ w'.cell? ⟨bS, oS + a, none⟩ = some (.int .i64 (g a : Nat)) ∧ w'.cell? ⟨bS', oS' + b, none⟩ = some (.int .i64 (g' b : Nat))) ∧ ((w'.cell? ⟨w.heap.size, 1, none⟩ = some (.slice (some ⟨bT, oT, none⟩) n cT) ∧ w'.cell? ⟨w.heap.size + 1, 1, none⟩ = some (.slice (some ⟨bT', oT', none⟩) m cT')) ∧ (w'.cell? ⟨g1, i * 2, none⟩ = some (.int .i64 (a : Nat)) ∧ w'.cell? ⟨g1, i * 2 + 1, none⟩ = some (.int .i64 (b : Nat))) ∧ w'.cell? ⟨bT, oT + a, none⟩ = some (.int .i64 (f a : Nat)) ∧ w'.cell? ⟨bT', oT' + b, none⟩ = some (.int .i64 (f' b : Nat)))) := fun {w' vS vT S T} h => by
            obtain ⟨g2, c2, hv2, _, e1, e2⟩ := h.at_ hiM
            obtain ⟨rfl, rfl⟩ : g2 = g1 ∧ c2 = c' := by
              injection hv2 with h3 h4 h5
              injection h3 with h3
              injection h3 with h3
              exact ⟨h3.symm, h5.symm⟩
            rw [hgt, HPd.out.1] at e1
            rw [hgt, HPd.out.2] at e2
            have hpa := h.pa
            have hpb := h.pb
            rw [HP.out] at hpa
            rw [HQ.out] at hpb
            exact ⟨⟨⟨(two_of_block hpa).1.1, (two_of_block hpb).1.1⟩, ⟨e1, e2⟩, (HL.out.1.below h.bel).2 a ha, (HL.out.2.2.1.below h.bel).2 b hb⟩,
              ⟨⟨(two_of_block hpa).1.2, (two_of_block hpb).1.2⟩, ⟨e1, e2⟩, (HL.out.2.1.below h.bel).2 a ha, (HL.out.2.2.2.below h.bel).2 b hb⟩⟩
          have HM_0 := Lib.hid HV.out.drew
          have hgl1 : g1 < wr.heap.size := hg1
          generalize hgA : g a = ga at *
          generalize hgB : g' b = gb at *
          generalize hfA : f a = fa at *
          generalize hfB : f' b = fb at *
          clear hgA hgB hfA hfB
          have hgai : (ga : Int) < (n : Int) := by omega
          go_upto_region 11 with fail
          go_cut [13] (fun s13 wx => s13 = .pointer (some ⟨wr.heap.size, 0, none⟩) ∧ Hid (TW w wx pk ba P Q N m M (.slice (some ⟨g1, 0, none⟩) M.length c') vS vT S0 T0) ∧ Hid (wx.heap[wr.heap.size]? = some (.cells #[.int .i64 (ga : Nat), .int .i64 (gb : Nat)] 98 (0, 0))))
          case first =>
            have HM_a := Lib.hid (HV.out.alloc (.cells #[.int .i64 0, .int .i64 0] 98)).drew
            have HM_b := Lib.hid (HV.out.alloc (.cells #[.int .i64 (ga : Nat), .int .i64 (gb : Nat)] 98)).drew
            have HM_x : Hid ((wr.alloc (.cells #[.int .i64 (ga : Nat), .int .i64 (gb : Nat)] 98)).drew.heap[wr.heap.size]? = some (.cells #[.int .i64 (ga : Nat), .int .i64 (gb : Nat)] 98 (0, 0))) := heap_alloc_new wr _
            have hbx : (wr.alloc (.cells #[.int .i64 0, .int .i64 0] 98)).drew.heap[wr.heap.size]? = some (.cells #[.int .i64 0, .int .i64 0] 98 (0, 0)) := heap_alloc_new wr _
            have hbxl := lt_of_block hbx
            obtain ⟨⟨k0, k1⟩, kf⟩ := two_of_block hbx
            go_region_held3 (fun w' => (w'.cell? ⟨w.heap.size, 0, none⟩ = some (.slice (some ⟨bS, oS, none⟩) n cS) ∧ w'.cell? ⟨w.heap.size + 1, 0, none⟩ = some (.slice (some ⟨bS', oS', none⟩) m cS')) ∧ (w'.cell? ⟨g1, i * 2, none⟩ = some (.int .i64 (a : Nat)) ∧ w'.cell? ⟨g1, i * 2 + 1, none⟩ = some (.int .i64 (b : Nat))) ∧ w'.cell? ⟨bS, oS + a, none⟩ = some (.int .i64 (ga : Nat)) ∧ w'.cell? ⟨bS', oS' + b, none⟩ = some (.int .i64 (gb : Nat)))
              (with_reducible first | exact (HHd.out HM_0.out).1 | exact (HHd.out HM_a.out).1 | exact (HHd.out HM_b.out).1 | fail)
              (first | fail)
            all_goals
              go_wp2_with fail
              go_meet
              exact ⟨rfl, HM_b, HM_x⟩
          case rest =>
            obtain ⟨rfl, HT1, HTb⟩ := hcut
            have hne : some wr.heap.size ≠ some g1 := by simp; omega
            have hge : w.heap.size ≤ wr.heap.size := HV.out.bs
            obtain ⟨tb, htb⟩ : ∃ tb, tb = wr.heap.size := ⟨_, rfl⟩
            rw [← htb] at HTb hne hge ⊢
            clear HM_0 HV htb
            have hNs := HT1.out.row
            rcases HJ.out with rfl | rfl
            · have HJd := HJ
              clear HJ HJd
              obtain ⟨t, Ht⟩ : ∃ t, Hid (t = eG g g' m p) := ⟨_, rfl⟩
              have htN : t < N := by rw [Ht.out]; exact hGl
              have htE : t = ga * m + gb := by rw [Ht.out]; exact HGe.out
              have HtD : Hid (t / m = ga ∧ t % m = gb) := by show _ ∧ _; rw [Ht.out]; exact HGd.out
              obtain ⟨pr, hpr⟩ : ∃ pr, pr = ga * m := ⟨_, rfl⟩
              rw [← hpr] at htE
              have hu1 : IntKind.i64.wrap ((ga : Int) * (m : Int)) = (pr : Int) := by rw [show (ga : Int) * (m : Int) = (pr : Int) by rw [hpr]; simp]; exact IntWalk.i64_in _ (by omega)
              have hu2 : IntKind.i64.wrap ((pr : Int) + (gb : Int)) = (t : Int) := by rw [show (pr : Int) + (gb : Int) = (t : Int) by omega]; exact IntWalk.i64_in _ (by omega)
              have hti : (t : Int) < (N : Int) := by omega
              have hXe : x = (vis M t).idxOf t := by rw [Ht.out, HM.out]; exact HXe.out
              have hLn : lst2 (eG g g' m) (eG f f' m) (bst (eG g g' m) (eG f f' m) 0 i) p 1 = vis M t := by rw [Ht.out, HM.out]; rfl
              have HXe' := Lib.hid hXe
              have HLn := Lib.hid hLn
              clear htE hpr hXe hLn HGe HFe HGd HFd hGl hFl
              have HU := HT1
              have HUb := HTb
              obtain ⟨⟨e1, e2⟩, e3⟩ := two_of_block HUb.out
              have htl2 := lt_of_block HUb.out
              have hp1 := (HHd.out HU.out).1.1.2
              have hcs := HU.out.row.cell (i := t) htN
              have hfz := HU.out.row.frozen t
              have hbz := HU.out.bs
              have hpl := HU.out.row.lt
              by_cases hmm : t ∈ M
              · obtain ⟨q, hq⟩ : ∃ q, q = M.idxOf t + 1 := ⟨_, rfl⟩
                rw [plx_in hmm, ← hq] at hcs
                have hq0 : ¬ (q : Int) = 0 := by omega
                have hqx : q = x + 1 := by rw [HXe'.out, show vis M t = M from if_pos hmm]; exact hq
                have hql : q ≤ 1155 := by have := List.idxOf_lt_length_iff.2 hmm; omega
                have hu3 : IntKind.i64.wrap ((q : Int) - 1) = (x : Int) := by rw [show (q : Int) - 1 = (x : Int) by omega]; exact IntWalk.i64_in _ (by omega)
                have HLv : Hid (lst2 (eG g g' m) (eG f f' m) (bst (eG g g' m) (eG f f' m) 0 i) p 1 = M) := by show _ = _; rw [HLn.out]; exact if_pos hmm
                have HHq : Hid (∀ {w' : World} {vS vT : Value} {S T : List Nat}, TW w w' pk ba P Q N m M (.slice (some ⟨g1, 0, none⟩) M.length c') vS vT S T → w'.cell? ⟨ba, 0, none⟩ = some vS ∧ w'.cell? ⟨pk, t, none⟩ = some (.int .i64 (q : Nat))) := fun {w' vS vT S T} h => by
                  have h3 := h.row.cell (i := t) htN
                  rw [plx_in hmm, ← hq] at h3
                  exact ⟨(two_of_block h.a.a).1.1, h3⟩
                have HQd := Lib.hid hq
                clear hq hmm
                have M_q := Lib.hid HU.out.drew
                have hsl0 : S0.length ≤ 1154 := by rw [HS0.out]; simp [sJ]; omega
                obtain ⟨wd, hwd⟩ : ∃ wd, wd = wc.drew := ⟨_, rfl⟩
                rw [← hwd] at M_q
                have HQx := Lib.hid hqx
                clear hqx
                go_upto_region 19 with fail
                refine region_E 8 (fun w' => w'.cell? ⟨ba, 0, none⟩ = some vS ∧ w'.cell? ⟨pk, t, none⟩ = some (.int .i64 (q : Nat))) (by kernel_rfl) ?_
                rw [← hwd]
                clear hwd
                have hHeld := HHq.out M_q.out
                refine take_E (n := 8) (i := 0) (v := ?vr0_0) rfl (by kernel_rfl) (fun _ _ _ h => h) ?hyr0_0 (by rfl) hHeld ?restr0_0
                case hyr0_0 => (intro w9 hSw; (try dsimp only at hSw); go_simp <;> with_reducible rfl)
                (try simp only [List.getElem_toArray, List.getElem_cons_zero, List.getElem_cons_succ, Act.put, List.setIfInBounds_toArray, List.set_cons_zero, List.set_cons_succ])
                refine take_E (n := 8) (i := 1) (v := ?vr0_1) rfl (by kernel_rfl) (fun _ _ _ h => h) ?hyr0_1 (by rfl) hHeld ?restr0_1
                case hyr0_1 => (intro w9 hSw; (try dsimp only at hSw); go_simp <;> with_reducible rfl)
                (try simp only [List.getElem_toArray, List.getElem_cons_zero, List.getElem_cons_succ, Act.put, List.setIfInBounds_toArray, List.set_cons_zero, List.set_cons_succ])
                refine take_E (n := 8) (i := 2) (v := ?vr0_2) rfl (by kernel_rfl) (fun _ _ _ h => h) ?hyr0_2 (by rfl) hHeld ?restr0_2
                case hyr0_2 => (intro w9 hSw; (try dsimp only at hSw); go_simp <;> with_reducible rfl)
                (try simp only [List.getElem_toArray, List.getElem_cons_zero, List.getElem_cons_succ, Act.put, List.setIfInBounds_toArray, List.set_cons_zero, List.set_cons_succ])
                refine take_E (n := 8) (i := 3) (v := ?vr0_3) rfl (by kernel_rfl) (fun _ _ _ h => h) ?hyr0_3 (by rfl) hHeld ?restr0_3
                case hyr0_3 => (intro w9 hSw; (try dsimp only at hSw); go_simp <;> with_reducible rfl)
                (try simp only [List.getElem_toArray, List.getElem_cons_zero, List.getElem_cons_succ, Act.put, List.setIfInBounds_toArray, List.set_cons_zero, List.set_cons_succ])
                refine take_E (n := 8) (i := 4) (v := ?vr0_4) rfl (by kernel_rfl) (fun _ _ _ h => h) ?hyr0_4 (by rfl) hHeld ?restr0_4
                case hyr0_4 => (intro w9 hSw; (try dsimp only at hSw); go_simp <;> with_reducible rfl)
                (try simp only [List.getElem_toArray, List.getElem_cons_zero, List.getElem_cons_succ, Act.put, List.setIfInBounds_toArray, List.set_cons_zero, List.set_cons_succ])
                refine take_E (n := 8) (i := 5) (v := ?vr0_5) rfl (by kernel_rfl) (fun _ _ _ h => h) ?hyr0_5 (by rfl) hHeld ?restr0_5
                case hyr0_5 => (intro w9 hSw; (try dsimp only at hSw); go_simp <;> with_reducible rfl)
                (try simp only [List.getElem_toArray, List.getElem_cons_zero, List.getElem_cons_succ, Act.put, List.setIfInBounds_toArray, List.set_cons_zero, List.set_cons_succ])
                refine take_E (n := 8) (i := 6) (v := ?vr0_6) rfl (by kernel_rfl) (fun _ _ _ h => h) ?hyr0_6 (by rfl) hHeld ?restr0_6
                case hyr0_6 => (intro w9 hSw; (try dsimp only at hSw); go_simp <;> with_reducible rfl)
                (try simp only [List.getElem_toArray, List.getElem_cons_zero, List.getElem_cons_succ, Act.put, List.setIfInBounds_toArray, List.set_cons_zero, List.set_cons_succ])
                refine one_E (n := 8) (i := 7) (by kernel_rfl) rfl (fun K hK => ?_)
                go_simp
                refine hK.out _ _ (fun _ => HHq.out (M_q.out.alloc _)) (fun hHeld7 => ?_)
                clear hK K
                (try simp only [List.getElem_toArray, List.getElem_cons_zero, List.getElem_cons_succ, Act.put, List.setIfInBounds_toArray, List.set_cons_zero, List.set_cons_succ])
                refine one_E (n := 8) (i := 8) (by kernel_rfl) rfl (fun K hK => ?_)
                refine step_append_lies _ (by rfl) _ _ _ (by rfl) w.heap.size 3 i0 _ 1 8 Try.underlying22 hi z0 z1 z2 rfl (by omega) vS S0.length (is S0) (by rfl) (M_q.out.alloc _).a.rS ⟨wd.heap.size, 0, none⟩ 1 1 [.int .i64 (x : Nat)] (by rfl) (by rfl) (World.news_of_block (cs := #[.int .i64 (x : Nat)]) (t := 3) (fr := (0, 0)) (heap_alloc_new wd _)) (by simp [Value.oneCell']) (by omega) (by unfold maxLen; omega) (by omega) (M_q.out.alloc _).bs (wd.heap.size + 1) (by simp) ?_
                intro gg cap' p2 hown2 hgrow hat hlt3
                have HA2 := Lib.hid ((M_q.out.alloc _).app (.inl rfl) hgrow)
                have HE2 := Lib.hid (TW.pushS (M_q.out.alloc _) hown2 hgrow (by simpa using hat))
                have fz := (two_of_block HA2.out).2
                have qz := (two_of_block HA2.out).1
                clear hown2 hgrow hat
                refine hK.out _ _ (fun h => absurd h (by decide)) (fun hHeld8 => ?_)
                clear hK K
                (try simp only [List.getElem_toArray, List.getElem_cons_zero, List.getElem_cons_succ, Act.put, List.setIfInBounds_toArray, List.set_cons_zero, List.set_cons_succ])
                refine one_E (n := 8) (i := 9) (by kernel_rfl) rfl (fun K hK => ?_)
                go_simp
                refine hK.out _ _ (fun h => absurd h (by decide)) (fun hHeld9 => ?_)
                clear hK K
                (try simp only [List.getElem_toArray, List.getElem_cons_zero, List.getElem_cons_succ, Act.put, List.setIfInBounds_toArray, List.set_cons_zero, List.set_cons_succ])
                refine one_E (n := 8) (i := 10) (by kernel_rfl) rfl (fun K hK => ?_)
                go_simp
                refine hK.out _ _ (fun h => absurd h (by decide)) (fun hHeld10 => ?_)
                clear hK K
                (try simp only [List.getElem_toArray, List.getElem_cons_zero, List.getElem_cons_succ, Act.put, List.setIfInBounds_toArray, List.set_cons_zero, List.set_cons_succ])
                refine done_E (by kernel_rfl) ?_ _
                have HE3 := HE2.out
                have e8 : S0 ++ [x] = sJ ((rS (eG g g' m) (eG f f' m) N 0).take i) x 1 := by rw [HS0.out]; rfl
                have e9 : T0 = tJ ((rT (eG g g' m) (eG f f' m) N 0).take i) y 1 := by rw [HT0.out]; rfl
                rw [e8, e9] at HE3
                go_wp2
                go_roundw
                case rel => exact ⟨1, some ⟨g1, 0, none⟩, c', _, vT, by rw [HLv.out], by go_num, by omega, by rw [HLv.out]; exact Lib.hid HE3⟩
                case measure => simp [intOf]
              · obtain ⟨q, hq⟩ : ∃ q, q = M.length + 1 := ⟨_, rfl⟩
                have hcs0 : wc.cell? ⟨pk, t, none⟩ = some (.int .i64 0) := by rw [plx_out hmm] at hcs; simpa using hcs
                clear hcs
                have hqx : q = x + 1 := by rw [HXe'.out, show vis M t = M ++ [t] from if_neg hmm, List.idxOf_append, if_neg hmm]; simp [hq]
                have hu3 : IntKind.i64.wrap ((q : Int) - 1) = (x : Int) := by rw [show (q : Int) - 1 = (x : Int) by omega]; exact IntWalk.i64_in _ (by omega)
                have HLv : Hid (lst2 (eG g g' m) (eG f f' m) (bst (eG g g' m) (eG f f' m) 0 i) p 1 = M ++ [t]) := by show _ = _; rw [HLn.out]; exact if_neg hmm
                have HHq : Hid (∀ {w' : World} {v vS vT : Value} {S T : List Nat}, TW w w' pk ba P Q N m (M ++ [t]) v vS vT S T → w'.cell? ⟨ba, 0, none⟩ = some vS ∧ w'.cell? ⟨pk, t, none⟩ = some (.int .i64 (q : Nat))) := fun {w' v vS vT S T} h => by
                  have h3 := h.row.cell (i := t) htN
                  rw [plx_push hmm, if_pos rfl, ← hq] at h3
                  exact ⟨(two_of_block h.a.a).1.1, h3⟩
                have hsl0 : S0.length ≤ 1154 := by rw [HS0.out]; simp [sJ]; omega
                have HMl : Hid ((M ++ [t]).length = q) := by show _ = _; rw [hq]; simp
                have HQm := Lib.hid hq
                have hqm : q ≤ 1155 := by omega
                have HMt := Lib.hid hmm
                have HQx := Lib.hid hqx
                clear hmm hq hqx
                go_upto_region 17 with (first
                  | (at_builtin; (refine wpList_append_own_at _ rfl _ _ 99 rfl w.heap.size 98 iP (.agg #[.int .i64 0, .int .i64 0]) 2 16 Try.underlying99 hiP y0 y1 y2 rfl (by decide) _ _ _ rfl (row_below HU.out.l (below1 _ _)) ⟨wc.heap.size, 0, none⟩ 1 1 [.int .i64 (ga : Nat), .int .i64 (gb : Nat)] rfl rfl (cell_two_newV _ _ _ _) (fun x hx => by simp at hx; rcases hx with rfl | rfl <;> rfl) (by unfold maxLen; omega) (by omega) (by simp; omega) ?_); intro v' w4 hown4 hg4 hnil4 hat4; obtain ⟨A2, c2, rfl⟩ := own_len hown4; have HNw := Lib.hid (HU.out.push HMt.out (by rw [HtD.out.1, HtD.out.2]; exact hown4) hg4); have hr4 := HU.out.row_app hg4; have hfz4 := hr4.frozen t; have hcs4 := hr4.cell (i := t) htN; have hpl4 := hr4.lt; rw [← HQm.out] at HNw ⊢; clear hown4 hg4 hnil4 hat4 hr4)
                  | fail)
                clear hcs0 hfz
                have M_q := Lib.hid HNw.out.drew
                obtain ⟨wd, hwd⟩ : ∃ wd, wd = (w4.setCell ⟨pk, t, none⟩ (.int .i64 (q : Nat))).drew := ⟨_, rfl⟩
                rw [← hwd] at M_q
                go_upto_region 19 with fail
                refine region_E 8 (fun w' => w'.cell? ⟨ba, 0, none⟩ = some vS ∧ w'.cell? ⟨pk, t, none⟩ = some (.int .i64 (q : Nat))) (by kernel_rfl) ?_
                rw [← hwd]
                clear hwd
                have hHeld := HHq.out M_q.out
                refine take_E (n := 8) (i := 0) (v := ?vr1_0) rfl (by kernel_rfl) (fun _ _ _ h => h) ?hyr1_0 (by rfl) hHeld ?restr1_0
                case hyr1_0 => (intro w9 hSw; (try dsimp only at hSw); go_simp <;> with_reducible rfl)
                (try simp only [List.getElem_toArray, List.getElem_cons_zero, List.getElem_cons_succ, Act.put, List.setIfInBounds_toArray, List.set_cons_zero, List.set_cons_succ])
                refine take_E (n := 8) (i := 1) (v := ?vr1_1) rfl (by kernel_rfl) (fun _ _ _ h => h) ?hyr1_1 (by rfl) hHeld ?restr1_1
                case hyr1_1 => (intro w9 hSw; (try dsimp only at hSw); go_simp <;> with_reducible rfl)
                (try simp only [List.getElem_toArray, List.getElem_cons_zero, List.getElem_cons_succ, Act.put, List.setIfInBounds_toArray, List.set_cons_zero, List.set_cons_succ])
                refine take_E (n := 8) (i := 2) (v := ?vr1_2) rfl (by kernel_rfl) (fun _ _ _ h => h) ?hyr1_2 (by rfl) hHeld ?restr1_2
                case hyr1_2 => (intro w9 hSw; (try dsimp only at hSw); go_simp <;> with_reducible rfl)
                (try simp only [List.getElem_toArray, List.getElem_cons_zero, List.getElem_cons_succ, Act.put, List.setIfInBounds_toArray, List.set_cons_zero, List.set_cons_succ])
                refine take_E (n := 8) (i := 3) (v := ?vr1_3) rfl (by kernel_rfl) (fun _ _ _ h => h) ?hyr1_3 (by rfl) hHeld ?restr1_3
                case hyr1_3 => (intro w9 hSw; (try dsimp only at hSw); go_simp <;> with_reducible rfl)
                (try simp only [List.getElem_toArray, List.getElem_cons_zero, List.getElem_cons_succ, Act.put, List.setIfInBounds_toArray, List.set_cons_zero, List.set_cons_succ])
                refine take_E (n := 8) (i := 4) (v := ?vr1_4) rfl (by kernel_rfl) (fun _ _ _ h => h) ?hyr1_4 (by rfl) hHeld ?restr1_4
                case hyr1_4 => (intro w9 hSw; (try dsimp only at hSw); go_simp <;> with_reducible rfl)
                (try simp only [List.getElem_toArray, List.getElem_cons_zero, List.getElem_cons_succ, Act.put, List.setIfInBounds_toArray, List.set_cons_zero, List.set_cons_succ])
                refine take_E (n := 8) (i := 5) (v := ?vr1_5) rfl (by kernel_rfl) (fun _ _ _ h => h) ?hyr1_5 (by rfl) hHeld ?restr1_5
                case hyr1_5 => (intro w9 hSw; (try dsimp only at hSw); go_simp <;> with_reducible rfl)
                (try simp only [List.getElem_toArray, List.getElem_cons_zero, List.getElem_cons_succ, Act.put, List.setIfInBounds_toArray, List.set_cons_zero, List.set_cons_succ])
                refine take_E (n := 8) (i := 6) (v := ?vr1_6) rfl (by kernel_rfl) (fun _ _ _ h => h) ?hyr1_6 (by rfl) hHeld ?restr1_6
                case hyr1_6 => (intro w9 hSw; (try dsimp only at hSw); go_simp <;> with_reducible rfl)
                (try simp only [List.getElem_toArray, List.getElem_cons_zero, List.getElem_cons_succ, Act.put, List.setIfInBounds_toArray, List.set_cons_zero, List.set_cons_succ])
                refine one_E (n := 8) (i := 7) (by kernel_rfl) rfl (fun K hK => ?_)
                go_simp
                refine hK.out _ _ (fun _ => HHq.out (M_q.out.alloc _)) (fun hHeld7 => ?_)
                clear hK K
                (try simp only [List.getElem_toArray, List.getElem_cons_zero, List.getElem_cons_succ, Act.put, List.setIfInBounds_toArray, List.set_cons_zero, List.set_cons_succ])
                refine one_E (n := 8) (i := 8) (by kernel_rfl) rfl (fun K hK => ?_)
                refine step_append_lies _ (by rfl) _ _ _ (by rfl) w.heap.size 3 i0 _ 1 8 Try.underlying22 hi z0 z1 z2 rfl (by omega) vS S0.length (is S0) (by rfl) (M_q.out.alloc _).a.rS ⟨wd.heap.size, 0, none⟩ 1 1 [.int .i64 (x : Nat)] (by rfl) (by rfl) (World.news_of_block (cs := #[.int .i64 (x : Nat)]) (t := 3) (fr := (0, 0)) (heap_alloc_new wd _)) (by simp [Value.oneCell']) (by omega) (by unfold maxLen; omega) (by omega) (M_q.out.alloc _).bs (wd.heap.size + 1) (by simp) ?_
                intro gg cap' p2 hown2 hgrow hat hlt3
                have HA2 := Lib.hid ((M_q.out.alloc _).app (.inl rfl) hgrow)
                have HE2 := Lib.hid (TW.pushS (M_q.out.alloc _) hown2 hgrow (by simpa using hat))
                have fz := (two_of_block HA2.out).2
                have qz := (two_of_block HA2.out).1
                clear hown2 hgrow hat
                refine hK.out _ _ (fun h => absurd h (by decide)) (fun hHeld8 => ?_)
                clear hK K
                (try simp only [List.getElem_toArray, List.getElem_cons_zero, List.getElem_cons_succ, Act.put, List.setIfInBounds_toArray, List.set_cons_zero, List.set_cons_succ])
                refine one_E (n := 8) (i := 9) (by kernel_rfl) rfl (fun K hK => ?_)
                go_simp
                refine hK.out _ _ (fun h => absurd h (by decide)) (fun hHeld9 => ?_)
                clear hK K
                (try simp only [List.getElem_toArray, List.getElem_cons_zero, List.getElem_cons_succ, Act.put, List.setIfInBounds_toArray, List.set_cons_zero, List.set_cons_succ])
                refine one_E (n := 8) (i := 10) (by kernel_rfl) rfl (fun K hK => ?_)
                go_simp
                refine hK.out _ _ (fun h => absurd h (by decide)) (fun hHeld10 => ?_)
                clear hK K
                (try simp only [List.getElem_toArray, List.getElem_cons_zero, List.getElem_cons_succ, Act.put, List.setIfInBounds_toArray, List.set_cons_zero, List.set_cons_succ])
                refine done_E (by kernel_rfl) ?_ _
                have HE3 := HE2.out
                have e8 : S0 ++ [x] = sJ ((rS (eG g g' m) (eG f f' m) N 0).take i) x 1 := by rw [HS0.out]; rfl
                have e9 : T0 = tJ ((rT (eG g g' m) (eG f f' m) N 0).take i) y 1 := by rw [HT0.out]; rfl
                rw [e8, e9] at HE3
                go_wp2
                go_roundw
                case rel => exact ⟨1, A2, c2, _, vT, by rw [HLv.out, HMl.out], by go_num, by omega, by rw [HLv.out, HMl.out]; exact Lib.hid HE3⟩
                case measure => simp [intOf]
            · have HJd := HJ
              clear HJ HJd
              obtain ⟨t, Ht⟩ : ∃ t, Hid (t = eG f f' m p) := ⟨_, rfl⟩
              have htN : t < N := by rw [Ht.out]; exact hFl
              have htE : t = fa * m + fb := by rw [Ht.out]; exact HFe.out
              have HtD : Hid (t / m = fa ∧ t % m = fb) := by show _ ∧ _; rw [Ht.out]; exact HFd.out
              obtain ⟨pr, hpr⟩ : ∃ pr, pr = fa * m := ⟨_, rfl⟩
              rw [← hpr] at htE
              have hu1 : IntKind.i64.wrap ((fa : Int) * (m : Int)) = (pr : Int) := by rw [show (fa : Int) * (m : Int) = (pr : Int) by rw [hpr]; simp]; exact IntWalk.i64_in _ (by omega)
              have hu2 : IntKind.i64.wrap ((pr : Int) + (fb : Int)) = (t : Int) := by rw [show (pr : Int) + (fb : Int) = (t : Int) by omega]; exact IntWalk.i64_in _ (by omega)
              have hti : (t : Int) < (N : Int) := by omega
              have hXe : y = (vis M t).idxOf t := by rw [Ht.out, HM.out]; exact HYe.out
              have hLn : lst2 (eG g g' m) (eG f f' m) (bst (eG g g' m) (eG f f' m) 0 i) p 2 = vis M t := by rw [Ht.out, HM.out]; rfl
              have HXe' := Lib.hid hXe
              have HLn := Lib.hid hLn
              clear htE hpr hXe hLn HGe HFe HGd HFd hGl hFl
              obtain ⟨⟨e1, e2⟩, e3⟩ := two_of_block HTb.out
              have M_0 := Lib.hid HT1.out.drew
              have htl : tb < wc.heap.size := lt_of_block HTb.out
              have HHd1 : Hid (∀ {w' : World} {vS vT : Value} {S T : List Nat}, TW w w' pk ba P Q N m M (.slice (some ⟨g1, 0, none⟩) M.length c') vS vT S T → ((w'.cell? ⟨w.heap.size, 1, none⟩ = some (.slice (some ⟨bT, oT, none⟩) n cT) ∧ w'.cell? ⟨w.heap.size + 1, 1, none⟩ = some (.slice (some ⟨bT', oT', none⟩) m cT')) ∧ (w'.cell? ⟨g1, i * 2, none⟩ = some (.int .i64 (a : Nat)) ∧ w'.cell? ⟨g1, i * 2 + 1, none⟩ = some (.int .i64 (b : Nat))) ∧ w'.cell? ⟨bT, oT + a, none⟩ = some (.int .i64 (fa : Nat)) ∧ w'.cell? ⟨bT', oT' + b, none⟩ = some (.int .i64 (fb : Nat)))) := fun {w' vS vT S T} h => (HHd.out h).2
              go_upto_region 13 with fail
              refine region_E 19 (fun w' => (w'.cell? ⟨w.heap.size, 1, none⟩ = some (.slice (some ⟨bT, oT, none⟩) n cT) ∧ w'.cell? ⟨w.heap.size + 1, 1, none⟩ = some (.slice (some ⟨bT', oT', none⟩) m cT')) ∧ (w'.cell? ⟨g1, i * 2, none⟩ = some (.int .i64 (a : Nat)) ∧ w'.cell? ⟨g1, i * 2 + 1, none⟩ = some (.int .i64 (b : Nat))) ∧ w'.cell? ⟨bT, oT + a, none⟩ = some (.int .i64 (fa : Nat)) ∧ w'.cell? ⟨bT', oT' + b, none⟩ = some (.int .i64 (fb : Nat))) (by kernel_rfl) ?_
              have hHeld := HHd1.out M_0.out
              refine take_E (n := 19) (i := 0) (v := ?vr2_0) rfl (by kernel_rfl) (fun _ _ _ h => h) ?hyr2_0 (by rfl) hHeld ?restr2_0
              case hyr2_0 => (intro w9 hSw; (try dsimp only at hSw); go_simp <;> with_reducible rfl)
              (try simp only [List.getElem_toArray, List.getElem_cons_zero, List.getElem_cons_succ, Act.put, List.setIfInBounds_toArray, List.set_cons_zero, List.set_cons_succ])
              refine take_E (n := 19) (i := 1) (v := ?vr2_1) rfl (by kernel_rfl) (fun _ _ _ h => h) ?hyr2_1 (by rfl) hHeld ?restr2_1
              case hyr2_1 => (intro w9 hSw; (try dsimp only at hSw); go_simp <;> with_reducible rfl)
              (try simp only [List.getElem_toArray, List.getElem_cons_zero, List.getElem_cons_succ, Act.put, List.setIfInBounds_toArray, List.set_cons_zero, List.set_cons_succ])
              refine take_E (n := 19) (i := 2) (v := ?vr2_2) rfl (by kernel_rfl) (fun _ _ _ h => h) ?hyr2_2 (by rfl) hHeld ?restr2_2
              case hyr2_2 => (intro w9 hSw; (try dsimp only at hSw); go_simp <;> with_reducible rfl)
              (try simp only [List.getElem_toArray, List.getElem_cons_zero, List.getElem_cons_succ, Act.put, List.setIfInBounds_toArray, List.set_cons_zero, List.set_cons_succ])
              refine take_E (n := 19) (i := 3) (v := ?vr2_3) rfl (by kernel_rfl) (fun _ _ _ h => h) ?hyr2_3 (by rfl) hHeld ?restr2_3
              case hyr2_3 => (intro w9 hSw; (try dsimp only at hSw); go_simp <;> with_reducible rfl)
              (try simp only [List.getElem_toArray, List.getElem_cons_zero, List.getElem_cons_succ, Act.put, List.setIfInBounds_toArray, List.set_cons_zero, List.set_cons_succ])
              refine take_E (n := 19) (i := 4) (v := ?vr2_4) rfl (by kernel_rfl) (fun _ _ _ h => h) ?hyr2_4 (by rfl) hHeld ?restr2_4
              case hyr2_4 => (intro w9 hSw; (try dsimp only at hSw); go_simp <;> with_reducible rfl)
              (try simp only [List.getElem_toArray, List.getElem_cons_zero, List.getElem_cons_succ, Act.put, List.setIfInBounds_toArray, List.set_cons_zero, List.set_cons_succ])
              refine take_E (n := 19) (i := 5) (v := ?vr2_5) rfl (by kernel_rfl) (fun _ _ _ h => h) ?hyr2_5 (by rfl) hHeld ?restr2_5
              case hyr2_5 => (intro w9 hSw; (try dsimp only at hSw); go_simp <;> with_reducible rfl)
              (try simp only [List.getElem_toArray, List.getElem_cons_zero, List.getElem_cons_succ, Act.put, List.setIfInBounds_toArray, List.set_cons_zero, List.set_cons_succ])
              refine take_E (n := 19) (i := 6) (v := ?vr2_6) rfl (by kernel_rfl) (fun _ _ _ h => h) ?hyr2_6 (by rfl) hHeld ?restr2_6
              case hyr2_6 => (intro w9 hSw; (try dsimp only at hSw); go_simp <;> with_reducible rfl)
              (try simp only [List.getElem_toArray, List.getElem_cons_zero, List.getElem_cons_succ, Act.put, List.setIfInBounds_toArray, List.set_cons_zero, List.set_cons_succ])
              refine take_E (n := 19) (i := 7) (v := ?vr2_7) rfl (by kernel_rfl) (fun _ _ _ h => h) ?hyr2_7 (by rfl) hHeld ?restr2_7
              case hyr2_7 => (intro w9 hSw; (try dsimp only at hSw); go_simp <;> with_reducible rfl)
              (try simp only [List.getElem_toArray, List.getElem_cons_zero, List.getElem_cons_succ, Act.put, List.setIfInBounds_toArray, List.set_cons_zero, List.set_cons_succ])
              refine take_E (n := 19) (i := 8) (v := ?vr2_8) rfl (by kernel_rfl) (fun _ _ _ h => h) ?hyr2_8 (by rfl) hHeld ?restr2_8
              case hyr2_8 => (intro w9 hSw; (try dsimp only at hSw); go_simp <;> with_reducible rfl)
              (try simp only [List.getElem_toArray, List.getElem_cons_zero, List.getElem_cons_succ, Act.put, List.setIfInBounds_toArray, List.set_cons_zero, List.set_cons_succ])
              refine take_E (n := 19) (i := 9) (v := ?vr2_9) rfl (by kernel_rfl) (fun _ _ _ h => h) ?hyr2_9 (by rfl) hHeld ?restr2_9
              case hyr2_9 => (intro w9 hSw; (try dsimp only at hSw); go_simp <;> with_reducible rfl)
              (try simp only [List.getElem_toArray, List.getElem_cons_zero, List.getElem_cons_succ, Act.put, List.setIfInBounds_toArray, List.set_cons_zero, List.set_cons_succ])
              refine take_E (n := 19) (i := 10) (v := ?vr2_10) rfl (by kernel_rfl) (fun _ _ _ h => h) ?hyr2_10 (by rfl) hHeld ?restr2_10
              case hyr2_10 => (intro w9 hSw; (try dsimp only at hSw); go_simp <;> with_reducible rfl)
              (try simp only [List.getElem_toArray, List.getElem_cons_zero, List.getElem_cons_succ, Act.put, List.setIfInBounds_toArray, List.set_cons_zero, List.set_cons_succ])
              refine take_E (n := 19) (i := 11) (v := ?vr2_11) rfl (by kernel_rfl) (fun _ _ _ h => h) ?hyr2_11 (by rfl) hHeld ?restr2_11
              case hyr2_11 => (intro w9 hSw; (try dsimp only at hSw); go_simp <;> with_reducible rfl)
              (try simp only [List.getElem_toArray, List.getElem_cons_zero, List.getElem_cons_succ, Act.put, List.setIfInBounds_toArray, List.set_cons_zero, List.set_cons_succ])
              refine take_E (n := 19) (i := 12) (v := ?vr2_12) rfl (by kernel_rfl) (fun _ _ _ h => h) ?hyr2_12 (by rfl) hHeld ?restr2_12
              case hyr2_12 => (intro w9 hSw; (try dsimp only at hSw); go_simp <;> with_reducible rfl)
              (try simp only [List.getElem_toArray, List.getElem_cons_zero, List.getElem_cons_succ, Act.put, List.setIfInBounds_toArray, List.set_cons_zero, List.set_cons_succ])
              refine take_E (n := 19) (i := 13) (v := ?vr2_13) rfl (by kernel_rfl) (fun _ _ _ h => h) ?hyr2_13 (by rfl) hHeld ?restr2_13
              case hyr2_13 => (intro w9 hSw; (try dsimp only at hSw); go_simp <;> with_reducible rfl)
              (try simp only [List.getElem_toArray, List.getElem_cons_zero, List.getElem_cons_succ, Act.put, List.setIfInBounds_toArray, List.set_cons_zero, List.set_cons_succ])
              refine take_E (n := 19) (i := 14) (v := ?vr2_14) rfl (by kernel_rfl) (fun _ _ _ h => h) ?hyr2_14 (by rfl) hHeld ?restr2_14
              case hyr2_14 => (intro w9 hSw; (try dsimp only at hSw); go_simp <;> with_reducible rfl)
              (try simp only [List.getElem_toArray, List.getElem_cons_zero, List.getElem_cons_succ, Act.put, List.setIfInBounds_toArray, List.set_cons_zero, List.set_cons_succ])
              refine take_E (n := 19) (i := 15) (v := ?vr2_15) rfl (by kernel_rfl) (fun _ _ _ h => h) ?hyr2_15 (by rfl) hHeld ?restr2_15
              case hyr2_15 => (intro w9 hSw; (try dsimp only at hSw); go_simp <;> with_reducible rfl)
              (try simp only [List.getElem_toArray, List.getElem_cons_zero, List.getElem_cons_succ, Act.put, List.setIfInBounds_toArray, List.set_cons_zero, List.set_cons_succ])
              refine take_E (n := 19) (i := 16) (v := ?vr2_16) rfl (by kernel_rfl) (fun _ _ _ h => h) ?hyr2_16 (by rfl) hHeld ?restr2_16
              case hyr2_16 => (intro w9 hSw; (try dsimp only at hSw); go_simp <;> with_reducible rfl)
              (try simp only [List.getElem_toArray, List.getElem_cons_zero, List.getElem_cons_succ, Act.put, List.setIfInBounds_toArray, List.set_cons_zero, List.set_cons_succ])
              refine take_E (n := 19) (i := 17) (v := ?vr2_17) rfl (by kernel_rfl) (fun _ _ _ h => h) ?hyr2_17 (by rfl) hHeld ?restr2_17
              case hyr2_17 => (intro w9 hSw; (try dsimp only at hSw); go_simp <;> with_reducible rfl)
              (try simp only [List.getElem_toArray, List.getElem_cons_zero, List.getElem_cons_succ, Act.put, List.setIfInBounds_toArray, List.set_cons_zero, List.set_cons_succ])
              refine take_E (n := 19) (i := 18) (v := ?vr2_18) rfl (by kernel_rfl) (fun _ _ _ h => h) ?hyr2_18 (by rfl) hHeld ?restr2_18
              case hyr2_18 => (intro w9 hSw; (try dsimp only at hSw); go_simp <;> with_reducible rfl)
              (try simp only [List.getElem_toArray, List.getElem_cons_zero, List.getElem_cons_succ, Act.put, List.setIfInBounds_toArray, List.set_cons_zero, List.set_cons_succ])
              refine one_E (n := 19) (i := 19) (by kernel_rfl) rfl (fun K hK => ?_)
              go_simp
              refine hK.out _ _ (fun h => absurd h (by decide)) (fun hHeld19 => ?_)
              clear hK K
              (try simp only [List.getElem_toArray, List.getElem_cons_zero, List.getElem_cons_succ, Act.put, List.setIfInBounds_toArray, List.set_cons_zero, List.set_cons_succ])
              refine done_E (by kernel_rfl) ?_ _
              have HU0 := Lib.hid ((HT1.out.setTo (j := 0) HTb.out hne hge (.int .i64 (fa : Nat))).setTo (j := 1) (heap_setCell_same _ tb 0 #[.int .i64 (ga : Nat), .int .i64 (gb : Nat)] _ _ HTb.out) hne hge (.int .i64 (fb : Nat))).drew
              have HUb0 : Hid (((wc.setCell ⟨tb, 0, none⟩ (.int .i64 (fa : Nat))).setCell ⟨tb, 1, none⟩ (.int .i64 (fb : Nat))).drew.heap[tb]? = some (.cells #[.int .i64 (fa : Nat), .int .i64 (fb : Nat)] 98 (0, 0))) := heap_setCell_same _ tb 1 #[.int .i64 (fa : Nat), .int .i64 (gb : Nat)] _ _ (heap_setCell_same _ tb 0 #[.int .i64 (ga : Nat), .int .i64 (gb : Nat)] _ _ HTb.out)
              clear e1 e2 e3 hHeld19
              obtain ⟨wq, hwq⟩ : ∃ wq, wq = ((wc.setCell ⟨tb, 0, none⟩ (.int .i64 (fa : Nat))).setCell ⟨tb, 1, none⟩ (.int .i64 (fb : Nat))).drew := ⟨_, rfl⟩
              rw [← hwq] at HU0 HUb0
              rw [← hwq]
              have HU := HU0
              have HUb : Hid (wq.heap[tb]? = some (.cells #[.int .i64 (fa : Nat), .int .i64 (fb : Nat)] 98 (0, 0))) := HUb0.out
              clear hwq HU0 HUb0 HHd1 M_0
              obtain ⟨⟨e1, e2⟩, e3⟩ := two_of_block HUb.out
              have htl2 := lt_of_block HUb.out
              have hp1 := (HHd.out HU.out).1.1.2
              have hcs := HU.out.row.cell (i := t) htN
              have hfz := HU.out.row.frozen t
              have hbz := HU.out.bs
              have hpl := HU.out.row.lt
              by_cases hmm : t ∈ M
              · obtain ⟨q, hq⟩ : ∃ q, q = M.idxOf t + 1 := ⟨_, rfl⟩
                rw [plx_in hmm, ← hq] at hcs
                have hq0 : ¬ (q : Int) = 0 := by omega
                have hqx : q = y + 1 := by rw [HXe'.out, show vis M t = M from if_pos hmm]; exact hq
                have hql : q ≤ 1155 := by have := List.idxOf_lt_length_iff.2 hmm; omega
                have hu3 : IntKind.i64.wrap ((q : Int) - 1) = (y : Int) := by rw [show (q : Int) - 1 = (y : Int) by omega]; exact IntWalk.i64_in _ (by omega)
                have HLv : Hid (lst2 (eG g g' m) (eG f f' m) (bst (eG g g' m) (eG f f' m) 0 i) p 2 = M) := by show _ = _; rw [HLn.out]; exact if_pos hmm
                have HHq : Hid (∀ {w' : World} {vS vT : Value} {S T : List Nat}, TW w w' pk ba P Q N m M (.slice (some ⟨g1, 0, none⟩) M.length c') vS vT S T → w'.cell? ⟨ba, 1, none⟩ = some vT ∧ w'.cell? ⟨pk, t, none⟩ = some (.int .i64 (q : Nat))) := fun {w' vS vT S T} h => by
                  have h3 := h.row.cell (i := t) htN
                  rw [plx_in hmm, ← hq] at h3
                  exact ⟨(two_of_block h.a.a).1.2, h3⟩
                have HQd := Lib.hid hq
                clear hq hmm
                have M_q := Lib.hid HU.out.drew
                have hsl0 : T0.length ≤ 1154 := by rw [HT0.out]; simp [tJ]; omega
                obtain ⟨wd, hwd⟩ : ∃ wd, wd = wq.drew := ⟨_, rfl⟩
                rw [← hwd] at M_q
                have HQx := Lib.hid hqx
                clear hqx
                go_upto_region 20 with fail
                refine region_E 8 (fun w' => w'.cell? ⟨ba, 1, none⟩ = some vT ∧ w'.cell? ⟨pk, t, none⟩ = some (.int .i64 (q : Nat))) (by kernel_rfl) ?_
                rw [← hwd]
                clear hwd
                have hHeld := HHq.out M_q.out
                refine take_E (n := 8) (i := 0) (v := ?vr3_0) rfl (by kernel_rfl) (fun _ _ _ h => h) ?hyr3_0 (by rfl) hHeld ?restr3_0
                case hyr3_0 => (intro w9 hSw; (try dsimp only at hSw); go_simp <;> with_reducible rfl)
                (try simp only [List.getElem_toArray, List.getElem_cons_zero, List.getElem_cons_succ, Act.put, List.setIfInBounds_toArray, List.set_cons_zero, List.set_cons_succ])
                refine take_E (n := 8) (i := 1) (v := ?vr3_1) rfl (by kernel_rfl) (fun _ _ _ h => h) ?hyr3_1 (by rfl) hHeld ?restr3_1
                case hyr3_1 => (intro w9 hSw; (try dsimp only at hSw); go_simp <;> with_reducible rfl)
                (try simp only [List.getElem_toArray, List.getElem_cons_zero, List.getElem_cons_succ, Act.put, List.setIfInBounds_toArray, List.set_cons_zero, List.set_cons_succ])
                refine take_E (n := 8) (i := 2) (v := ?vr3_2) rfl (by kernel_rfl) (fun _ _ _ h => h) ?hyr3_2 (by rfl) hHeld ?restr3_2
                case hyr3_2 => (intro w9 hSw; (try dsimp only at hSw); go_simp <;> with_reducible rfl)
                (try simp only [List.getElem_toArray, List.getElem_cons_zero, List.getElem_cons_succ, Act.put, List.setIfInBounds_toArray, List.set_cons_zero, List.set_cons_succ])
                refine take_E (n := 8) (i := 3) (v := ?vr3_3) rfl (by kernel_rfl) (fun _ _ _ h => h) ?hyr3_3 (by rfl) hHeld ?restr3_3
                case hyr3_3 => (intro w9 hSw; (try dsimp only at hSw); go_simp <;> with_reducible rfl)
                (try simp only [List.getElem_toArray, List.getElem_cons_zero, List.getElem_cons_succ, Act.put, List.setIfInBounds_toArray, List.set_cons_zero, List.set_cons_succ])
                refine take_E (n := 8) (i := 4) (v := ?vr3_4) rfl (by kernel_rfl) (fun _ _ _ h => h) ?hyr3_4 (by rfl) hHeld ?restr3_4
                case hyr3_4 => (intro w9 hSw; (try dsimp only at hSw); go_simp <;> with_reducible rfl)
                (try simp only [List.getElem_toArray, List.getElem_cons_zero, List.getElem_cons_succ, Act.put, List.setIfInBounds_toArray, List.set_cons_zero, List.set_cons_succ])
                refine take_E (n := 8) (i := 5) (v := ?vr3_5) rfl (by kernel_rfl) (fun _ _ _ h => h) ?hyr3_5 (by rfl) hHeld ?restr3_5
                case hyr3_5 => (intro w9 hSw; (try dsimp only at hSw); go_simp <;> with_reducible rfl)
                (try simp only [List.getElem_toArray, List.getElem_cons_zero, List.getElem_cons_succ, Act.put, List.setIfInBounds_toArray, List.set_cons_zero, List.set_cons_succ])
                refine take_E (n := 8) (i := 6) (v := ?vr3_6) rfl (by kernel_rfl) (fun _ _ _ h => h) ?hyr3_6 (by rfl) hHeld ?restr3_6
                case hyr3_6 => (intro w9 hSw; (try dsimp only at hSw); go_simp <;> with_reducible rfl)
                (try simp only [List.getElem_toArray, List.getElem_cons_zero, List.getElem_cons_succ, Act.put, List.setIfInBounds_toArray, List.set_cons_zero, List.set_cons_succ])
                refine one_E (n := 8) (i := 7) (by kernel_rfl) rfl (fun K hK => ?_)
                go_simp
                refine hK.out _ _ (fun _ => HHq.out (M_q.out.alloc _)) (fun hHeld7 => ?_)
                clear hK K
                (try simp only [List.getElem_toArray, List.getElem_cons_zero, List.getElem_cons_succ, Act.put, List.setIfInBounds_toArray, List.set_cons_zero, List.set_cons_succ])
                refine one_E (n := 8) (i := 8) (by kernel_rfl) rfl (fun K hK => ?_)
                refine step_append_lies _ (by rfl) _ _ _ (by rfl) w.heap.size 3 i0 _ 1 8 Try.underlying22 hi z0 z1 z2 rfl (by omega) vT T0.length (is T0) (by rfl) (M_q.out.alloc _).a.rT ⟨wd.heap.size, 0, none⟩ 1 1 [.int .i64 (y : Nat)] (by rfl) (by rfl) (World.news_of_block (cs := #[.int .i64 (y : Nat)]) (t := 3) (fr := (0, 0)) (heap_alloc_new wd _)) (by simp [Value.oneCell']) (by omega) (by unfold maxLen; omega) (by omega) (M_q.out.alloc _).bs (wd.heap.size + 1) (by simp) ?_
                intro gg cap' p2 hown2 hgrow hat hlt3
                have HA2 := Lib.hid ((M_q.out.alloc _).app (.inr rfl) hgrow)
                have HE2 := Lib.hid (TW.pushT (M_q.out.alloc _) hown2 hgrow (by simpa using hat))
                have fz := (two_of_block HA2.out).2
                have qz := (two_of_block HA2.out).1
                clear hown2 hgrow hat
                refine hK.out _ _ (fun h => absurd h (by decide)) (fun hHeld8 => ?_)
                clear hK K
                (try simp only [List.getElem_toArray, List.getElem_cons_zero, List.getElem_cons_succ, Act.put, List.setIfInBounds_toArray, List.set_cons_zero, List.set_cons_succ])
                refine one_E (n := 8) (i := 9) (by kernel_rfl) rfl (fun K hK => ?_)
                go_simp
                refine hK.out _ _ (fun h => absurd h (by decide)) (fun hHeld9 => ?_)
                clear hK K
                (try simp only [List.getElem_toArray, List.getElem_cons_zero, List.getElem_cons_succ, Act.put, List.setIfInBounds_toArray, List.set_cons_zero, List.set_cons_succ])
                refine one_E (n := 8) (i := 10) (by kernel_rfl) rfl (fun K hK => ?_)
                go_simp
                refine hK.out _ _ (fun h => absurd h (by decide)) (fun hHeld10 => ?_)
                clear hK K
                (try simp only [List.getElem_toArray, List.getElem_cons_zero, List.getElem_cons_succ, Act.put, List.setIfInBounds_toArray, List.set_cons_zero, List.set_cons_succ])
                refine done_E (by kernel_rfl) ?_ _
                have HE3 := HE2.out
                have e8 : S0 = sJ ((rS (eG g g' m) (eG f f' m) N 0).take i) x 2 := by rw [HS0.out]; rfl
                have e9 : T0 ++ [y] = tJ ((rT (eG g g' m) (eG f f' m) N 0).take i) y 2 := by rw [HT0.out]; rfl
                rw [e8, e9] at HE3
                go_wp2
                go_roundw
                case rel => exact ⟨2, some ⟨g1, 0, none⟩, c', vS, _, by rw [HLv.out], by go_num, by omega, by rw [HLv.out]; exact Lib.hid HE3⟩
                case measure => simp [intOf]
              · obtain ⟨q, hq⟩ : ∃ q, q = M.length + 1 := ⟨_, rfl⟩
                have hcs0 : wq.cell? ⟨pk, t, none⟩ = some (.int .i64 0) := by rw [plx_out hmm] at hcs; simpa using hcs
                clear hcs
                have hqx : q = y + 1 := by rw [HXe'.out, show vis M t = M ++ [t] from if_neg hmm, List.idxOf_append, if_neg hmm]; simp [hq]
                have hu3 : IntKind.i64.wrap ((q : Int) - 1) = (y : Int) := by rw [show (q : Int) - 1 = (y : Int) by omega]; exact IntWalk.i64_in _ (by omega)
                have HLv : Hid (lst2 (eG g g' m) (eG f f' m) (bst (eG g g' m) (eG f f' m) 0 i) p 2 = M ++ [t]) := by show _ = _; rw [HLn.out]; exact if_neg hmm
                have HHq : Hid (∀ {w' : World} {v vS vT : Value} {S T : List Nat}, TW w w' pk ba P Q N m (M ++ [t]) v vS vT S T → w'.cell? ⟨ba, 1, none⟩ = some vT ∧ w'.cell? ⟨pk, t, none⟩ = some (.int .i64 (q : Nat))) := fun {w' v vS vT S T} h => by
                  have h3 := h.row.cell (i := t) htN
                  rw [plx_push hmm, if_pos rfl, ← hq] at h3
                  exact ⟨(two_of_block h.a.a).1.2, h3⟩
                have hsl0 : T0.length ≤ 1154 := by rw [HT0.out]; simp [tJ]; omega
                have HMl : Hid ((M ++ [t]).length = q) := by show _ = _; rw [hq]; simp
                have HQm := Lib.hid hq
                have hqm : q ≤ 1155 := by omega
                have HMt := Lib.hid hmm
                have HQx := Lib.hid hqx
                clear hmm hq hqx
                go_upto_region 17 with (first
                  | (at_builtin; (refine wpList_append_own_at _ rfl _ _ 99 rfl w.heap.size 98 iP (.agg #[.int .i64 0, .int .i64 0]) 2 16 Try.underlying99 hiP y0 y1 y2 rfl (by decide) _ _ _ rfl (row_below HU.out.l (below1 _ _)) ⟨wq.heap.size, 0, none⟩ 1 1 [.int .i64 (fa : Nat), .int .i64 (fb : Nat)] rfl rfl (cell_two_newV _ _ _ _) (fun x hx => by simp at hx; rcases hx with rfl | rfl <;> rfl) (by unfold maxLen; omega) (by omega) (by simp; omega) ?_); intro v' w4 hown4 hg4 hnil4 hat4; obtain ⟨A2, c2, rfl⟩ := own_len hown4; have HNw := Lib.hid (HU.out.push HMt.out (by rw [HtD.out.1, HtD.out.2]; exact hown4) hg4); have hr4 := HU.out.row_app hg4; have hfz4 := hr4.frozen t; have hcs4 := hr4.cell (i := t) htN; have hpl4 := hr4.lt; rw [← HQm.out] at HNw ⊢; clear hown4 hg4 hnil4 hat4 hr4)
                  | fail)
                clear hcs0 hfz
                have M_q := Lib.hid HNw.out.drew
                obtain ⟨wd, hwd⟩ : ∃ wd, wd = (w4.setCell ⟨pk, t, none⟩ (.int .i64 (q : Nat))).drew := ⟨_, rfl⟩
                rw [← hwd] at M_q
                go_upto_region 20 with fail
                refine region_E 8 (fun w' => w'.cell? ⟨ba, 1, none⟩ = some vT ∧ w'.cell? ⟨pk, t, none⟩ = some (.int .i64 (q : Nat))) (by kernel_rfl) ?_
                rw [← hwd]
                clear hwd
                have hHeld := HHq.out M_q.out
                refine take_E (n := 8) (i := 0) (v := ?vr4_0) rfl (by kernel_rfl) (fun _ _ _ h => h) ?hyr4_0 (by rfl) hHeld ?restr4_0
                case hyr4_0 => (intro w9 hSw; (try dsimp only at hSw); go_simp <;> with_reducible rfl)
                (try simp only [List.getElem_toArray, List.getElem_cons_zero, List.getElem_cons_succ, Act.put, List.setIfInBounds_toArray, List.set_cons_zero, List.set_cons_succ])
                refine take_E (n := 8) (i := 1) (v := ?vr4_1) rfl (by kernel_rfl) (fun _ _ _ h => h) ?hyr4_1 (by rfl) hHeld ?restr4_1
                case hyr4_1 => (intro w9 hSw; (try dsimp only at hSw); go_simp <;> with_reducible rfl)
                (try simp only [List.getElem_toArray, List.getElem_cons_zero, List.getElem_cons_succ, Act.put, List.setIfInBounds_toArray, List.set_cons_zero, List.set_cons_succ])
                refine take_E (n := 8) (i := 2) (v := ?vr4_2) rfl (by kernel_rfl) (fun _ _ _ h => h) ?hyr4_2 (by rfl) hHeld ?restr4_2
                case hyr4_2 => (intro w9 hSw; (try dsimp only at hSw); go_simp <;> with_reducible rfl)
                (try simp only [List.getElem_toArray, List.getElem_cons_zero, List.getElem_cons_succ, Act.put, List.setIfInBounds_toArray, List.set_cons_zero, List.set_cons_succ])
                refine take_E (n := 8) (i := 3) (v := ?vr4_3) rfl (by kernel_rfl) (fun _ _ _ h => h) ?hyr4_3 (by rfl) hHeld ?restr4_3
                case hyr4_3 => (intro w9 hSw; (try dsimp only at hSw); go_simp <;> with_reducible rfl)
                (try simp only [List.getElem_toArray, List.getElem_cons_zero, List.getElem_cons_succ, Act.put, List.setIfInBounds_toArray, List.set_cons_zero, List.set_cons_succ])
                refine take_E (n := 8) (i := 4) (v := ?vr4_4) rfl (by kernel_rfl) (fun _ _ _ h => h) ?hyr4_4 (by rfl) hHeld ?restr4_4
                case hyr4_4 => (intro w9 hSw; (try dsimp only at hSw); go_simp <;> with_reducible rfl)
                (try simp only [List.getElem_toArray, List.getElem_cons_zero, List.getElem_cons_succ, Act.put, List.setIfInBounds_toArray, List.set_cons_zero, List.set_cons_succ])
                refine take_E (n := 8) (i := 5) (v := ?vr4_5) rfl (by kernel_rfl) (fun _ _ _ h => h) ?hyr4_5 (by rfl) hHeld ?restr4_5
                case hyr4_5 => (intro w9 hSw; (try dsimp only at hSw); go_simp <;> with_reducible rfl)
                (try simp only [List.getElem_toArray, List.getElem_cons_zero, List.getElem_cons_succ, Act.put, List.setIfInBounds_toArray, List.set_cons_zero, List.set_cons_succ])
                refine take_E (n := 8) (i := 6) (v := ?vr4_6) rfl (by kernel_rfl) (fun _ _ _ h => h) ?hyr4_6 (by rfl) hHeld ?restr4_6
                case hyr4_6 => (intro w9 hSw; (try dsimp only at hSw); go_simp <;> with_reducible rfl)
                (try simp only [List.getElem_toArray, List.getElem_cons_zero, List.getElem_cons_succ, Act.put, List.setIfInBounds_toArray, List.set_cons_zero, List.set_cons_succ])
                refine one_E (n := 8) (i := 7) (by kernel_rfl) rfl (fun K hK => ?_)
                go_simp
                refine hK.out _ _ (fun _ => HHq.out (M_q.out.alloc _)) (fun hHeld7 => ?_)
                clear hK K
                (try simp only [List.getElem_toArray, List.getElem_cons_zero, List.getElem_cons_succ, Act.put, List.setIfInBounds_toArray, List.set_cons_zero, List.set_cons_succ])
                refine one_E (n := 8) (i := 8) (by kernel_rfl) rfl (fun K hK => ?_)
                refine step_append_lies _ (by rfl) _ _ _ (by rfl) w.heap.size 3 i0 _ 1 8 Try.underlying22 hi z0 z1 z2 rfl (by omega) vT T0.length (is T0) (by rfl) (M_q.out.alloc _).a.rT ⟨wd.heap.size, 0, none⟩ 1 1 [.int .i64 (y : Nat)] (by rfl) (by rfl) (World.news_of_block (cs := #[.int .i64 (y : Nat)]) (t := 3) (fr := (0, 0)) (heap_alloc_new wd _)) (by simp [Value.oneCell']) (by omega) (by unfold maxLen; omega) (by omega) (M_q.out.alloc _).bs (wd.heap.size + 1) (by simp) ?_
                intro gg cap' p2 hown2 hgrow hat hlt3
                have HA2 := Lib.hid ((M_q.out.alloc _).app (.inr rfl) hgrow)
                have HE2 := Lib.hid (TW.pushT (M_q.out.alloc _) hown2 hgrow (by simpa using hat))
                have fz := (two_of_block HA2.out).2
                have qz := (two_of_block HA2.out).1
                clear hown2 hgrow hat
                refine hK.out _ _ (fun h => absurd h (by decide)) (fun hHeld8 => ?_)
                clear hK K
                (try simp only [List.getElem_toArray, List.getElem_cons_zero, List.getElem_cons_succ, Act.put, List.setIfInBounds_toArray, List.set_cons_zero, List.set_cons_succ])
                refine one_E (n := 8) (i := 9) (by kernel_rfl) rfl (fun K hK => ?_)
                go_simp
                refine hK.out _ _ (fun h => absurd h (by decide)) (fun hHeld9 => ?_)
                clear hK K
                (try simp only [List.getElem_toArray, List.getElem_cons_zero, List.getElem_cons_succ, Act.put, List.setIfInBounds_toArray, List.set_cons_zero, List.set_cons_succ])
                refine one_E (n := 8) (i := 10) (by kernel_rfl) rfl (fun K hK => ?_)
                go_simp
                refine hK.out _ _ (fun h => absurd h (by decide)) (fun hHeld10 => ?_)
                clear hK K
                (try simp only [List.getElem_toArray, List.getElem_cons_zero, List.getElem_cons_succ, Act.put, List.setIfInBounds_toArray, List.set_cons_zero, List.set_cons_succ])
                refine done_E (by kernel_rfl) ?_ _
                have HE3 := HE2.out
                have e8 : S0 = sJ ((rS (eG g g' m) (eG f f' m) N 0).take i) x 2 := by rw [HS0.out]; rfl
                have e9 : T0 ++ [y] = tJ ((rT (eG g g' m) (eG f f' m) N 0).take i) y 2 := by rw [HT0.out]; rfl
                rw [e8, e9] at HE3
                go_wp2
                go_roundw
                case rel => exact ⟨2, A2, c2, vS, _, by rw [HLv.out, HMl.out], by go_num, by omega, by rw [HLv.out, HMl.out]; exact Lib.hid HE3⟩
                case measure => simp [intOf]
        · obtain rfl : j = 2 := by omega
          have h22 : ¬ (2 : Int) < 2 := by omega
          obtain ⟨M, hM⟩ : ∃ M, M = bst (eG g g' m) (eG f f' m) 0 (i + 1) := ⟨_, rfl⟩
          have e7 : lst2 (eG g g' m) (eG f f' m) (bst (eG g g' m) (eG f f' m) 0 i) p 2 = M := by rw [hM]; exact HB2.out.symm
          rw [e7] at HV ⊢
          have HM := Lib.hid hM
          have HOv := Lib.hid (HBn.out hM)
          clear e7 hM HBn
          obtain ⟨⟨b1, b2⟩, fb⟩ := two_of_block HV.out.res
          have hzr := lt_of_block HV.out.res
          by_cases hov : lim < M.length
          · have hov' : (lim : Int) < (M.length : Int) := by omega
            go_wp2
            have z0' : ((wr.setCell ⟨w.heap.size + 1 + 1, 0, none⟩ (.slice none 0 0)).setCell ⟨w.heap.size + 1 + 1, 1, none⟩ (.slice none 0 0)).heap[w.heap.size + 1 + 1]? = some (.cells #[.slice none 0 0, .slice none 0 0] 24 (0, 0)) :=
              heap_setCell_same _ (w.heap.size + 1 + 1) 1 #[.slice none 0 0, .slice none 0 0] _ _ (heap_setCell_same _ (w.heap.size + 1 + 1) 0 #[.slice none 0 0, .slice none 0 0] _ _ HV.out.res)
            obtain ⟨⟨d1, d2⟩, _⟩ := two_of_block z0'
            refine bodyPost_ret (v := .tuple #[.agg #[.slice none 0 0, .slice none 0 0], .bool false]) ?_ rfl ⟨below_set2 HV.out.bel (by omega) _ _, .inr ⟨by rw [← HX.out]; exact HOv.out hov, rfl⟩⟩
            simp [results, Try.results54, go_sem, d1, d2]
          · have hov' : ¬ (lim : Int) < (M.length : Int) := by omega
            go_wp2
            go_roundw
            case rel => exact ⟨i + 1, A', c', vS, vT, by rw [← HM.out], by go_num, hiN, by rw [← HM.out]; omega, by rw [HRS.out, HRT.out, ← HM.out]; exact HV⟩
            case measure => simp [intOf]; omega
    · have hd := bst_done (eG_prm HG.out.1 HG.out.2.2.1) (eG_prm HG.out.2.1 HG.out.2.2.2) (show 0 < n * m by rw [← HN.out]; exact hN0) (k := i) (by omega)
      rw [← HN.out] at hd
      have hXl : X = (bst (eG g g' m) (eG f f' m) 0 i).length := by rw [HX.out]; unfold orbN; rw [hd]
      obtain rfl : i = X := by omega
      have HXl := Lib.hid (show i ≤ lim by omega)
      have hrS := HV.out.a.rS
      have hrT := HV.out.a.rT
      have hS1 : (rS (eG g g' m) (eG f f' m) N 0).take i = rS (eG g g' m) (eG f f' m) N 0 := List.take_of_length_le (by rw [rS_len, ← HX.out]; exact Nat.le_refl _)
      have hT1 : (rT (eG g g' m) (eG f f' m) N 0).take i = rT (eG g g' m) (eG f f' m) N 0 := List.take_of_length_le (by rw [rT_len, ← HX.out]; exact Nat.le_refl _)
      rw [hS1, rS_len, ← HX.out] at hrS
      rw [hT1, rT_len, ← HX.out] at hrT
      obtain ⟨AS, cS1, rfl⟩ := own_len hrS
      obtain ⟨AT, cT1, rfl⟩ := own_len hrT
      have HRS := Lib.hid hrS
      have HRT := Lib.hid hrT
      obtain ⟨⟨a1, a2⟩, _⟩ := two_of_block HV.out.a.a
      have hzb := lt_of_block HV.out.a.a
      obtain ⟨⟨b1, b2⟩, fb⟩ := two_of_block HV.out.res
      have hzr := lt_of_block HV.out.res
      rw [← hXl]
      have hk3 : ¬ (i : Int) < (i : Int) := by omega
      clear hrS hrT hS1 hT1 hXl hd hlt hil hiX
      go_wp2
      have z0' : ((wr.setCell ⟨w.heap.size + 1 + 1, 0, none⟩ (.slice AS i cS1)).setCell ⟨w.heap.size + 1 + 1, 1, none⟩ (.slice AT i cT1)).heap[w.heap.size + 1 + 1]? = some (.cells #[.slice AS i cS1, .slice AT i cT1] 24 (0, 0)) :=
        heap_setCell_same _ (w.heap.size + 1 + 1) 1 #[.slice AS i cS1, .slice none 0 0] _ _ (heap_setCell_same _ (w.heap.size + 1 + 1) 0 #[.slice none 0 0, .slice none 0 0] _ _ HV.out.res)
      obtain ⟨⟨d1, d2⟩, _⟩ := two_of_block z0'
      have keep : ∀ {base n size : Nat} {e : TypeId} {v : Value} {xs : List Value}, wr.ownsRow base e size v n xs → e ≠ 24 → ((wr.setCell ⟨w.heap.size + 1 + 1, 0, none⟩ (.slice AS i cS1)).setCell ⟨w.heap.size + 1 + 1, 1, none⟩ (.slice AT i cT1)).ownsRow base e size v n xs := fun h he => row_keep h fun g hg => by
        obtain ⟨_, cur, hc⟩ := row_lt h hg
        have hne : g ≠ w.heap.size + 1 + 1 := ty_ne hc HV.out.res he
        exact set_ne (set_ne rfl hne _) hne _
      refine bodyPost_ret (v := .tuple #[.agg #[.slice AS i cS1, .slice AT i cT1], .bool true]) ?_ rfl ⟨below_set2 HV.out.bel (by omega) _ _, .inl ⟨by rw [← HX.out]; exact HXl.out, .slice AS i cS1, .slice AT i cT1, rfl, by rw [← HX.out]; exact keep HRS.out (by decide), by rw [← HX.out]; exact keep HRT.out (by decide)⟩⟩
      simp [results, Try.results54, go_sem, d1, d2]
end Go.Proofs.Ytjofmgnggeoimaa
