/- The contract of projective: the action on the orbits of S^2. -/
import Derived.Test.YtdgfdbifeopiaaaAcM
import Derived.Test.YtdgfdbifeopiaaaHeadT
import Derived.Laws.MakeOwn
import Derived.Deep.DeepCutAuto
import Derived.Deep.CutBlock
import Derived.IntWalk
import Derived.Deep.AppendLies
namespace Go.Proofs.Ytdgfdbifeopiaaa
open Go.RowKit
set_option linter.unusedVariables false
set_option linter.unusedSimpArgs false

/-- The numbers of the orbits, and the least points, behind the points below k. -/
def pjN (z : Nat → Nat) : Nat → (Nat → Nat) × List Nat
  | 0 => (fun _ => 0, [])
  | k + 1 => if z k < k then (fun j => if j = k then (pjN z k).1 (z k) else (pjN z k).1 j, (pjN z k).2) else (fun j => if j = k then (pjN z k).2.length else (pjN z k).1 j, (pjN z k).2 ++ [k])
theorem pjN_old {z : Nat → Nat} {k : Nat} (h : z k < k) : pjN z (k + 1) = (fun j => if j = k then (pjN z k).1 (z k) else (pjN z k).1 j, (pjN z k).2) := if_pos h
theorem pjN_new {z : Nat → Nat} {k : Nat} (h : ¬ z k < k) : pjN z (k + 1) = (fun j => if j = k then (pjN z k).2.length else (pjN z k).1 j, (pjN z k).2 ++ [k]) := if_neg h
theorem pjN_len (z : Nat → Nat) : ∀ k, (pjN z k).2.length ≤ k
  | 0 => Nat.le_refl _
  | k + 1 => by
    have := pjN_len z k
    by_cases h : z k < k
    · rw [pjN_old h]; exact Nat.le_succ_of_le this
    · rw [pjN_new h]; show ((pjN z k).2 ++ [k]).length ≤ _; simp; omega
theorem pjN_mem (z : Nat → Nat) : ∀ k, ∀ x ∈ (pjN z k).2, x < k
  | 0, x, h => by simp [pjN] at h
  | k + 1, x, h => by
    by_cases hz : z k < k
    · rw [pjN_old hz] at h; have := pjN_mem z k x h; omega
    · rw [pjN_new hz] at h
      rcases List.mem_append.1 h with h | h
      · have := pjN_mem z k x h; omega
      · rw [List.mem_singleton.1 h]; omega
theorem ty_ne2 {W : World} {i k : Nat} {c d : Array Value} {t u : TypeId} (h : W.heap[i]? = some (.cells c t (0, 0))) (h' : W.heap[k]? = some (.cells d u (0, 0))) (hne : t ≠ u) : i ≠ k := by
  intro e
  subst e
  rw [h] at h'
  injection h' with h'
  injection h' with _ h3
  exact hne h3
theorem row_ne2 {W : World} {i B : Nat} {c : Array Value} {t u : TypeId} {v : Value} {s l : Nat} {xs : List Value} (h : W.heap[i]? = some (.cells c t (0, 0))) (h' : W.ownsRow B u s v l xs) (hne : t ≠ u) : some i ≠ v.ownBlock := by
  intro e
  obtain ⟨_, hn | ⟨g', cap', cur, hv, _, hg2, _⟩⟩ := h'
  · rw [hn.1] at e; cases e
  · subst hv
    injection e with e
    exact ty_ne2 h hg2 hne e
/-- The first loop's world: the numbers, the least points, the boxes. -/
structure NV (w wr : World) (xs ys : Array Value) (n : Nat) (N : Nat → Nat) (v : Value) (L : List Nat) : Prop where
  row : wr.rowIs (w.heap.size + 1 + 1) 3 n (fun j => .int .i64 (N j : Nat))
  own : wr.ownsRow w.heap.size 3 1 v L.length (zs (iz L))
  x : wr.heap[w.heap.size]? = some (.cells xs 25 (0, 0))
  r : wr.heap[w.heap.size + 1]? = some (.cells ys 25 (0, 0))
  bel : Below w.heap.size w wr
  ne : some (w.heap.size + 1 + 1) ≠ v.ownBlock
section
variable {w wr w' : World} {xs ys : Array Value} {n : Nat} {N : Nat → Nat} {v v' : Value} {L : List Nat}
theorem NV.drewN (h : NV w wr xs ys n N v L) (m : Nat) : NV w (wr.drewN m) xs ys n N v L := ⟨h.row.of_block rfl, own_low h.own fun _ _ => rfl, h.x, h.r, below_drewN h.bel m, h.ne⟩
theorem NV.set (h : NV w wr xs ys n N v L) (x a : Nat) : NV w (wr.setCell ⟨w.heap.size + 1 + 1, x, none⟩ (.int .i64 (a : Nat))) xs ys n (fun j => if j = x then a else N j) v L := by
  refine ⟨World.rowIs.congr (h.row.set x _) fun j _ => (by by_cases e : j = x <;> simp [e]), ?_, set_ne h.x (by omega) _, set_ne h.r (by omega) _, h.bel.setCell (by show _ ≤ w.heap.size + 1 + 1; omega) _, h.ne⟩
  exact h.own.kept (row := some (w.heap.size + 1 + 1)) ⟨rfl, rfl, rfl, by simp, fun k _ hk => Below.heap_setCell wr ⟨w.heap.size + 1 + 1, x, none⟩ _ k (fun e => hk (by rw [e]))⟩ (.inr fun e => h.ne e.symm)
theorem NV.push (h : NV w wr xs ys n N v L) {p : Nat} {o : Obj} (hown : w'.ownsRow w.heap.size 3 1 v' (L.length + 1) (zs (iz L) ++ [.int .i64 (p : Nat)])) (hg : (wr.alloc o).grownBy w' v.ownBlock) (hat : v'.ownBlock = v.ownBlock ∨ v'.ownBlock = some (wr.alloc o).heap.size) : NV w w' xs ys n N v' (L ++ [p]) := by
  have hlt := h.row.lt
  refine ⟨h.row.of_block ?_, by rw [List.length_append, iz_append, zs_append]; exact hown, ?_, ?_, ?_, ?_⟩
  · rw [hg.block _ (by simp; omega) h.ne, Below.heap_alloc _ _ _ hlt]
  · exact (hg.block _ (by have := lt_of_block h.x; simp; omega) (row_ne2 h.x h.own (by decide))).trans (block_alloc h.x o)
  · exact (hg.block _ (by have := lt_of_block h.r; simp; omega) (row_ne2 h.r h.own (by decide))).trans (block_alloc h.r o)
  · exact (h.bel.alloc h.bel.size o).grown hg (by have := h.bel.size; simp; omega) fun j hj => (h.own.lt j hj).1
  · rcases hat with e | e
    · rw [e]; exact h.ne
    · rw [e]; simp; omega
end
theorem nv_start (w : World) (xs ys : Array Value) (n : Nat) : NV w (((w.alloc (.cells xs 25)).alloc (.cells ys 25)).alloc (.cells (madeCells #[.int .i64 0] n) 3)) xs ys n (fun _ => 0) (.slice none 0 0) [] := by
  have hr := World.rowIs_made ((w.alloc (.cells xs 25)).alloc (.cells ys 25)) (.int .i64 0) n 3
  have h2 := heap_alloc_new (w.alloc (.cells xs 25)) (.cells ys 25)
  exact ⟨by simpa using hr, World.ownsRow_nil _ _ _ _, block_alloc (block_alloc (heap_alloc_new w _) _) _, block_alloc (by simpa using h2) _, (below2 w _ _).trans ((below1 _ _).mono (by simp; omega)), by simp [Value.ownBlock]⟩
theorem mk_int2 (n : Nat) (W : World) (hn : n ≤ 1152) : (Instr.makeSlice 23 (.int .i64 (n : Int)) (.int .i64 (n : Int))).run Try.prog W = .ok (.slice (some ⟨W.heap.size, 0, none⟩) n n) (W.alloc (.cells (madeCells #[.int .i64 0] n) 3)) := by
  obtain ⟨i1, hj, y0, y1, y2⟩ := info_parts Try.infoInt
  have h := run_make (P := Try.prog) W 23 3 i1 (.int .i64 0) Try.underlying23 hj y0 .i64 .i64 (n : Int) (n : Int) (by omega) (by omega) (by rw [y2]; omega) (by omega)
  rw [show ((n : Int)).toNat = n by omega, y1, Nat.mul_one] at h
  exact h
/-- The second loop's world, above W: the new action's box and its lists. -/
structure QV (W wr : World) (vS vT : Value) (PS PT : List Nat) : Prop where
  p : wr.heap[W.heap.size]? = some (.cells #[vS, vT] 25 (0, 0))
  rS : wr.ownsRow (W.heap.size + 1) 3 1 vS PS.length (zs (iz PS))
  rT : wr.ownsRow (W.heap.size + 1) 3 1 vT PT.length (zs (iz PT))
  ap : ∀ g, vS.ownBlock = some g → vT.ownBlock ≠ some g
  bel : Below W.heap.size W wr
section
variable {W wr w' : World} {vS vT : Value} {PS PT : List Nat}
theorem QV.drew (h : QV W wr vS vT PS PT) : QV W wr.drew vS vT PS PT := ⟨h.p, own_low h.rS fun _ _ => rfl, own_low h.rT fun _ _ => rfl, h.ap, h.bel.drew⟩
theorem QV.alloc (h : QV W wr vS vT PS PT) (o : Obj) : QV W (wr.alloc o) vS vT PS PT := ⟨block_alloc h.p _, h.rS.alloc _, h.rT.alloc _, h.ap, h.bel.alloc h.bel.size _⟩
theorem own_keep2 {w w' : World} {base n size : Nat} {e : TypeId} {v : Value} {xs : List Value} (h : w.ownsRow base e size v n xs) (hk : ∀ g, v.ownBlock = some g → w'.heap[g]? = w.heap[g]?) : w'.ownsRow base e size v n xs := by
  obtain ⟨h1, h2⟩ := h
  refine ⟨h1, ?_⟩
  rcases h2 with h2 | ⟨g, cap, cur, rfl, hb, hg, h3⟩
  · exact .inl h2
  · exact .inr ⟨g, cap, cur, rfl, hb, (hk g rfl).trans hg, h3⟩
theorem own_lt2 {w : World} {base n size : Nat} {e : TypeId} {v : Value} {xs : List Value} (h : w.ownsRow base e size v n xs) {g : Nat} (hg : v.ownBlock = some g) : base ≤ g ∧ ∃ cur, w.heap[g]? = some (.cells cur e (0, 0)) := by
  rcases h.2 with ⟨rfl, _⟩ | ⟨g', cap, cur, rfl, hb, hg', h3⟩
  · cases hg
  · cases hg
    exact ⟨hb, cur, hg'⟩
theorem QV.pushS (h : QV W wr vS vT PS PT) {x g c : Nat} (hown : w'.ownsRow (W.heap.size + 1) 3 1 (.slice (some ⟨g, 0, none⟩) (PS.length + 1) c) (PS.length + 1) (zs (iz PS) ++ [.int .i64 (x : Nat)])) (hg : wr.grownBy w' vS.ownBlock) (hat : vS.ownBlock = some g ∨ g = wr.heap.size) :
    w'.heap[W.heap.size]? = some (.cells #[vS, vT] 25 (0, 0)) ∧ QV W (w'.setCell ⟨W.heap.size, 0, none⟩ (.slice (some ⟨g, 0, none⟩) (PS.length + 1) c)) (.slice (some ⟨g, 0, none⟩) (PS.length + 1) c) vT (PS ++ [x]) PT := by
  have hp := (hg.block _ (lt_of_block h.p) (row_ne2 h.p h.rS (by decide))).trans h.p
  have hb : Below W.heap.size W w' := h.bel.grown hg h.bel.size fun j hj => by have := (own_lt2 h.rS hj).1; omega
  refine ⟨hp, heap_setCell_same _ _ 0 #[vS, vT] _ _ hp, ?_, ?_, fun g' h1 h2 => ?_, hb.setCell (Nat.le_refl _) _⟩
  · rw [List.length_append, iz_append, zs_append]
    exact own_keep2 hown fun g' h1 => by
      obtain ⟨_, cur, hc⟩ := own_lt2 hown h1
      exact set_ne rfl (ty_ne2 hc hp (by decide)) _
  · refine own_keep2 h.rT fun g' h1 => ?_
    obtain ⟨_, cur, hc⟩ := own_lt2 h.rT h1
    have h2 : some g' ≠ vS.ownBlock := fun e => h.ap g' e.symm h1
    have h3 := hg.block g' (lt_of_block hc) h2
    exact set_ne h3 (ty_ne2 (h3.trans hc) hp (by decide)) _
  · cases h1
    obtain ⟨_, cur, hc⟩ := own_lt2 h.rT h2
    rcases hat with e | e
    · exact h.ap _ e h2
    · have h9 : g < wr.heap.size := lt_of_block hc
      omega
theorem QV.pushT (h : QV W wr vS vT PS PT) {x g c : Nat} (hown : w'.ownsRow (W.heap.size + 1) 3 1 (.slice (some ⟨g, 0, none⟩) (PT.length + 1) c) (PT.length + 1) (zs (iz PT) ++ [.int .i64 (x : Nat)])) (hg : wr.grownBy w' vT.ownBlock) (hat : vT.ownBlock = some g ∨ g = wr.heap.size) :
    w'.heap[W.heap.size]? = some (.cells #[vS, vT] 25 (0, 0)) ∧ QV W (w'.setCell ⟨W.heap.size, 1, none⟩ (.slice (some ⟨g, 0, none⟩) (PT.length + 1) c)) vS (.slice (some ⟨g, 0, none⟩) (PT.length + 1) c) PS (PT ++ [x]) := by
  have hp := (hg.block _ (lt_of_block h.p) (row_ne2 h.p h.rT (by decide))).trans h.p
  have hb : Below W.heap.size W w' := h.bel.grown hg h.bel.size fun j hj => by have := (own_lt2 h.rT hj).1; omega
  refine ⟨hp, heap_setCell_same _ _ 1 #[vS, vT] _ _ hp, ?_, ?_, fun g' h1 h2 => ?_, hb.setCell (Nat.le_refl _) _⟩
  · refine own_keep2 h.rS fun g' h1 => ?_
    obtain ⟨_, cur, hc⟩ := own_lt2 h.rS h1
    have h2 : some g' ≠ vT.ownBlock := fun e => h.ap g' h1 e.symm
    have h3 := hg.block g' (lt_of_block hc) h2
    exact set_ne h3 (ty_ne2 (h3.trans hc) hp (by decide)) _
  · rw [List.length_append, iz_append, zs_append]
    exact own_keep2 hown fun g' h1 => by
      obtain ⟨_, cur, hc⟩ := own_lt2 hown h1
      exact set_ne rfl (ty_ne2 hc hp (by decide)) _
  · cases h2
    obtain ⟨_, cur, hc⟩ := own_lt2 h.rS h1
    rcases hat with e | e
    · exact h.ap _ h1 e
    · have h9 : g < wr.heap.size := lt_of_block hc
      omega
end
theorem qv_start (W : World) : QV W (W.alloc (.cells #[.slice none 0 0, .slice none 0 0] 25)) (.slice none 0 0) (.slice none 0 0) [] [] :=
  ⟨heap_alloc_new W _, World.ownsRow_nil _ _ _ _, World.ownsRow_nil _ _ _ _, fun g h => by simp [Value.ownBlock] at h, below1 _ _⟩
end Go.Proofs.Ytdgfdbifeopiaaa
