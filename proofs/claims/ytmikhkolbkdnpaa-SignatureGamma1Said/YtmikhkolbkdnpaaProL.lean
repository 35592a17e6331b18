/- The contract of projective: the action on the orbits of S^2. -/
import Derived.Test.YtmikhkolbkdnpaaAcM
import Derived.Test.YtmikhkolbkdnpaaHeadT
import Derived.Laws.MakeOwn
import Derived.Deep.DeepCutAuto
import Derived.Deep.CutBlock
import Derived.IntWalk
import Derived.Deep.AppendLies
namespace Go.Proofs.Ytmikhkolbkdnpaa
open Go.RowKit
set_option linter.unusedVariables false
set_option linter.unusedSimpArgs false

/-- The numbers of the orbits, and the least points, behind the points below k. -/
def pjN (z : Nat → Nat) : Nat → (Nat → Nat) × List Nat
  | 0 => (fun _ => 0, [])
  | k + 1 => if z k < k then (fun j => if j = k then (pjN z k).1 (z k) else (pjN z k).1 j, (pjN z k).2) else (fun j => if j = k then (pjN z k).2.length else (pjN z k).1 j, (pjN z k).2 ++ [k])
theorem pjN_old {z : Nat → Nat} {k : Nat} (h : z k < k) : pjN z (k + 1) = (fun j => if j = k then (pjN z k).1 (z k) else (pjN z k).1 j, (pjN z k).2) := if_pos h
theorem pjN_new {z : Nat → Nat} {k : Nat} (h : ¬ z k < k) : pjN z (k + 1) = (fun j => if j = k then (pjN z k).2.length else (pjN z k).1 j, (pjN z k).2 ++ [k]) := if_neg h
theorem pjN_len (z : Nat → Nat) : ∀ k, (pjN z k).2.length ≤ k
  | 0 => Nat.le_refl _
  | k + 1 => by
    have := pjN_len z k
    by_cases h : z k < k
    · rw [pjN_old h]; exact Nat.le_succ_of_le this
    · rw [pjN_new h]; show ((pjN z k).2 ++ [k]).length ≤ _; simp; omega
theorem pjN_mem (z : Nat → Nat) : ∀ k, ∀ x ∈ (pjN z k).2, x < k
  | 0, x, h => by simp [pjN] at h
  | k + 1, x, h => by
    by_cases hz : z k < k
    · rw [pjN_old hz] at h; have := pjN_mem z k x h; omega
    · rw [pjN_new hz] at h
      rcases List.mem_append.1 h with h | h
      · have := pjN_mem z k x h; omega
      · rw [List.mem_singleton.1 h]; omega
theorem ty_ne2 {W : World} {i k : Nat} {c d : Array Value} {t u : TypeId} (h : W.heap[i]? = some (.cells c t (0, 0))) (h' : W.heap[k]? = some (.cells d u (0, 0))) (hne : t ≠ u) : i ≠ k := by
  intro e
  subst e
  rw [h] at h'
  injection h' with h'
  injection h' with _ h3
  exact hne h3
theorem row_ne2 {W : World} {i B : Nat} {c : Array Value} {t u : TypeId} {v : Value} {s l : Nat} {xs : List Value} (h : W.heap[i]? = some (.cells c t (0, 0))) (h' : W.ownsRow B u s v l xs) (hne : t ≠ u) : some i ≠ v.ownBlock := by
  intro e
  obtain ⟨_, hn | ⟨g', cap', cur, hv, _, hg2, _⟩⟩ := h'
  · rw [hn.1] at e; cases e
  · subst hv
    injection e with e
    exact ty_ne2 h hg2 hne e
/-- The first loop's world: the numbers, the least points, the boxes. -/
structure NV (w wr : World) (xs ys : Array Value) (n : Nat) (N : Nat → Nat) (v : Value) (L : List Nat) : Prop where
  row : wr.rowIs (w.heap.size + 1 + 1) 3 n (fun j => .int .i64 (N j : Nat))
  own : wr.ownsRow w.heap.size 3 1 v L.length (zs (iz L))
  x : wr.heap[w.heap.size]? = some (.cells xs 24 (0, 0))
  r : wr.heap[w.heap.size + 1]? = some (.cells ys 24 (0, 0))
  bel : Below w.heap.size w wr
  ne : some (w.heap.size + 1 + 1) ≠ v.ownBlock
section
variable {w wr w' : World} {xs ys : Array Value} {n : Nat} {N : Nat → Nat} {v v' : Value} {L : List Nat}
theorem NV.drewN (h : NV w wr xs ys n N v L) (m : Nat) : NV w (wr.drewN m) xs ys n N v L := ⟨h.row.of_block rfl, own_low h.own fun _ _ => rfl, h.x, h.r, below_drewN h.bel m, h.ne⟩
theorem NV.set (h : NV w wr xs ys n N v L) (x a : Nat) : NV w (wr.setCell ⟨w.heap.size + 1 + 1, x, none⟩ (.int .i64 (a : Nat))) xs ys n (fun j => if j = x then a else N j) v L := by
  refine ⟨World.rowIs.congr (h.row.set x _) fun j _ => (by by_cases e : j = x <;> simp [e]), ?_, set_ne h.x (by omega) _, set_ne h.r (by omega) _, h.bel.setCell (by show _ ≤ w.heap.size + 1 + 1; omega) _, h.ne⟩
  exact h.own.kept (row := some (w.heap.size + 1 + 1)) ⟨rfl, rfl, rfl, by simp, fun k _ hk => Below.heap_setCell wr ⟨w.heap.size + 1 + 1, x, none⟩ _ k (fun e => hk (by rw [e]))⟩ (.inr fun e => h.ne e.symm)
theorem NV.push (h : NV w wr xs ys n N v L) {p : Nat} {o : Obj} (hown : w'.ownsRow w.heap.size 3 1 v' (L.length + 1) (zs (iz L) ++ [.int .i64 (p : Nat)])) (hg : (wr.alloc o).grownBy w' v.ownBlock) (hat : v'.ownBlock = v.ownBlock ∨ v'.ownBlock = some (wr.alloc o).heap.size) : NV w w' xs ys n N v' (L ++ [p]) := by
  have hlt := h.row.lt
  refine ⟨h.row.of_block ?_, by rw [List.length_append, iz_append, zs_append]; exact hown, ?_, ?_, ?_, ?_⟩
  · rw [hg.block _ (by simp; omega) h.ne, Below.heap_alloc _ _ _ hlt]
  · exact (hg.block _ (by have := lt_of_block h.x; simp; omega) (row_ne2 h.x h.own (by decide))).trans (block_alloc h.x o)
  · exact (hg.block _ (by have := lt_of_block h.r; simp; omega) (row_ne2 h.r h.own (by decide))).trans (block_alloc h.r o)
  · exact (h.bel.alloc h.bel.size o).grown hg (by have := h.bel.size; simp; omega) fun j hj => (h.own.lt j hj).1
  · rcases hat with e | e
    · rw [e]; exact h.ne
    · rw [e]; simp; omega
end
theorem nv_start (w : World) (xs ys : Array Value) (n : Nat) : NV w (((w.alloc (.cells xs 24)).alloc (.cells ys 24)).alloc (.cells (madeCells #[.int .i64 0] n) 3)) xs ys n (fun _ => 0) (.slice none 0 0) [] := by
  have hr := World.rowIs_made ((w.alloc (.cells xs 24)).alloc (.cells ys 24)) (.int .i64 0) n 3
  have h2 := heap_alloc_new (w.alloc (.cells xs 24)) (.cells ys 24)
  exact ⟨by simpa using hr, World.ownsRow_nil _ _ _ _, block_alloc (block_alloc (heap_alloc_new w _) _) _, block_alloc (by simpa using h2) _, (below2 w _ _).trans ((below1 _ _).mono (by simp; omega)), by simp [Value.ownBlock]⟩
theorem mk_int2 (n : Nat) (W : World) (hn : n ≤ 1152) : (Instr.makeSlice 22 (.int .i64 (n : Int)) (.int .i64 (n : Int))).run Try.prog W = .ok (.slice (some ⟨W.heap.size, 0, none⟩) n n) (W.alloc (.cells (madeCells #[.int .i64 0] n) 3)) := by
  obtain ⟨i1, hj, y0, y1, y2⟩ := info_parts Try.infoInt
  have h := run_make (P := Try.prog) W 22 3 i1 (.int .i64 0) Try.underlying22 hj y0 .i64 .i64 (n : Int) (n : Int) (by omega) (by omega) (by rw [y2]; omega) (by omega)
  rw [show ((n : Int)).toNat = n by omega, y1, Nat.mul_one] at h
  exact h
/-- The second loop's world, above W: the new action's box and its lists. -/
structure QV (W wr : World) (vS vT : Value) (PS PT : List Nat) : Prop where
  p : wr.heap[W.heap.size]? = some (.cells #[vS, vT] 24 (0, 0))
  rS : wr.ownsRow (W.heap.size + 1) 3 1 vS PS.length (zs (iz PS))
  rT : wr.ownsRow (W.heap.size + 1) 3 1 vT PT.length (zs (iz PT))
  ap : ∀ g, vS.ownBlock = some g → vT.ownBlock ≠ some g
  bel : Below W.heap.size W wr
section
variable {W wr w' : World} {vS vT : Value} {PS PT : List Nat}
theorem QV.drew (h : QV W wr vS vT PS PT) : QV W wr.drew vS vT PS PT := ⟨h.p, own_low h.rS fun _ _ => rfl, own_low h.rT fun _ _ => rfl, h.ap, h.bel.drew⟩
theorem QV.alloc (h : QV W wr vS vT PS PT) (o : Obj) : QV W (wr.alloc o) vS vT PS PT := ⟨block_alloc h.p _, h.rS.alloc _, h.rT.alloc _, h.ap, h.bel.alloc h.bel.size _⟩
theorem own_keep2 {w w' : World} {base n size : Nat} {e : TypeId} {v : Value} {xs : List Value} (h : w.ownsRow base e size v n xs) (hk : ∀ g, v.ownBlock = some g → w'.heap[g]? = w.heap[g]?) : w'.ownsRow base e size v n xs := by
  obtain ⟨h1, h2⟩ := h
  refine ⟨h1, ?_⟩
  rcases h2 with h2 | ⟨g, cap, cur, rfl, hb, hg, h3⟩
  · exact .inl h2
  · exact .inr ⟨g, cap, cur, rfl, hb, (hk g rfl).trans hg, h3⟩
theorem own_lt2 {w : World} {base n size : Nat} {e : TypeId} {v : Value} {xs : List Value} (h : w.ownsRow base e size v n xs) {g : Nat} (hg : v.ownBlock = some g) : base ≤ g ∧ ∃ cur, w.heap[g]? = some (.cells cur e (0, 0)) := by
  rcases h.2 with ⟨rfl, _⟩ | ⟨g', cap, cur, rfl, hb, hg', h3⟩
  · cases hg
  · cases hg
    exact ⟨hb, cur, hg'⟩
theorem QV.pushS (h : QV W wr vS vT PS PT) {x g c : Nat} (hown : w'.ownsRow (W.heap.size + 1) 3 1 (.slice (some ⟨g, 0, none⟩) (PS.length + 1) c) (PS.length + 1) (zs (iz PS) ++ [.int .i64 (x : Nat)])) (hg : wr.grownBy w' vS.ownBlock) (hat : vS.ownBlock = some g ∨ g = wr.heap.size) :
    w'.heap[W.heap.size]? = some (.cells #[vS, vT] 24 (0, 0)) ∧ QV W (w'.setCell ⟨W.heap.size, 0, none⟩ (.slice (some ⟨g, 0, none⟩) (PS.length + 1) c)) (.slice (some ⟨g, 0, none⟩) (PS.length + 1) c) vT (PS ++ [x]) PT := by
  have hp := (hg.block _ (lt_of_block h.p) (row_ne2 h.p h.rS (by decide))).trans h.p
  have hb : Below W.heap.size W w' := h.bel.grown hg h.bel.size fun j hj => by have := (own_lt2 h.rS hj).1; omega
  refine ⟨hp, heap_setCell_same _ _ 0 #[vS, vT] _ _ hp, ?_, ?_, fun g' h1 h2 => ?_, hb.setCell (Nat.le_refl _) _⟩
  · rw [List.length_append, iz_append, zs_append]
    exact own_keep2 hown fun g' h1 => by
      obtain ⟨_, cur, hc⟩ := own_lt2 hown h1
      exact set_ne rfl (ty_ne2 hc hp (by decide)) _
  · refine own_keep2 h.rT fun g' h1 => ?_
    obtain ⟨_, cur, hc⟩ := own_lt2 h.rT h1
    have h2 : some g' ≠ vS.ownBlock := fun e => h.ap g' e.symm h1
    have h3 := hg.block g' (lt_of_block hc) h2
    exact set_ne h3 (ty_ne2 (h3.trans hc) hp (by decide)) _
  · cases h1
    obtain ⟨_, cur, hc⟩ := own_lt2 h.rT h2
    rcases hat with e | e
    · exact h.ap _ e h2
    · have h9 : g < wr.heap.size := lt_of_block hc
      omega
theorem QV.pushT (h : QV W wr vS vT PS PT) {x g c : Nat} (hown : w'.ownsRow (W.heap.size + 1) 3 1 (.slice (some ⟨g, 0, none⟩) (PT.length + 1) c) (PT.length + 1) (zs (iz PT) ++ [.int .i64 (x : Nat)])) (hg : wr.grownBy w' vT.ownBlock) (hat : vT.ownBlock = some g ∨ g = wr.heap.size) :
    w'.heap[W.heap.size]? = some (.cells #[vS, vT] 24 (0, 0)) ∧ QV W (w'.setCell ⟨W.heap.size, 1, none⟩ (.slice (some ⟨g, 0, none⟩) (PT.length + 1) c)) vS (.slice (some ⟨g, 0, none⟩) (PT.length + 1) c) PS (PT ++ [x]) := by
  have hp := (hg.block _ (lt_of_block h.p) (row_ne2 h.p h.rT (by decide))).trans h.p
  have hb : Below W.heap.size W w' := h.bel.grown hg h.bel.size fun j hj => by have := (own_lt2 h.rT hj).1; omega
  refine ⟨hp, heap_setCell_same _ _ 1 #[vS, vT] _ _ hp, ?_, ?_, fun g' h1 h2 => ?_, hb.setCell (Nat.le_refl _) _⟩
  · refine own_keep2 h.rS fun g' h1 => ?_
    obtain ⟨_, cur, hc⟩ := own_lt2 h.rS h1
    have h2 : some g' ≠ vT.ownBlock := fun e => h.ap g' h1 e.symm
    have h3 := hg.block g' (lt_of_block hc) h2
    exact set_ne h3 (ty_ne2 (h3.trans hc) hp (by decide)) _
  · rw [List.length_append, iz_append, zs_append]
    exact own_keep2 hown fun g' h1 => by
      obtain ⟨_, cur, hc⟩ := own_lt2 hown h1
      exact set_ne rfl (ty_ne2 hc hp (by decide)) _
  · cases h2
    obtain ⟨_, cur, hc⟩ := own_lt2 h.rS h1
    rcases hat with e | e
    · exact h.ap _ h1 e
    · have h9 : g < wr.heap.size := lt_of_block hc
      omega
end
theorem qv_start (W : World) : QV W (W.alloc (.cells #[.slice none 0 0, .slice none 0 0] 24)) (.slice none 0 0) (.slice none 0 0) [] [] :=
  ⟨heap_alloc_new W _, World.ownsRow_nil _ _ _ _, World.ownsRow_nil _ _ _ _, fun g h => by simp [Value.ownBlock] at h, below1 _ _⟩
set_option maxHeartbeats 6400000 in
set_option maxRecDepth 1000000 in
theorem projective_any {g f : Nat → Nat} {n bS oS bT oT cS cT : Nat} (w : World) (hs : RdN w w.heap.size bS oS n g) (ht : RdN w w.heap.size bT oT n f) (hg : Prm g n) (hf : Prm f n) (hn : n ≤ 1152) :
    Calls Try.prog 35 #[.agg #[.slice (some ⟨bS, oS, none⟩) n cS, .slice (some ⟨bT, oT, none⟩) n cT]] w fun e w' => ∃ A c A' c', e = .returned (.agg #[.slice A (pjN (fun i => g (g i)) n).2.length c, .slice A' (pjN (fun i => g (g i)) n).2.length c']) ∧
      w'.ownsRow w.heap.size 3 1 (.slice A (pjN (fun i => g (g i)) n).2.length c) (pjN (fun i => g (g i)) n).2.length (zs (iz ((pjN (fun i => g (g i)) n).2.map fun i => (pjN (fun i => g (g i)) n).1 (g i)))) ∧
      w'.ownsRow w.heap.size 3 1 (.slice A' (pjN (fun i => g (g i)) n).2.length c') (pjN (fun i => g (g i)) n).2.length (zs (iz ((pjN (fun i => g (g i)) n).2.map fun i => (pjN (fun i => g (g i)) n).1 (f i)))) ∧ Below w.heap.size w w' := by
  obtain ⟨i0, hi0, z0, z1, z2⟩ := info_parts Try.infoInt
  have hmk := fun W => mk_int2 n W hn
  have HG := Lib.hid hg
  have HF := Lib.hid hf
  have HS := Lib.hid hs
  have HT := Lib.hid ht
  have HV0 := Lib.hid (nv_start w #[.slice (some ⟨bS, oS, none⟩) n cS, .slice (some ⟨bT, oT, none⟩) n cT] #[.slice none 0 0, .slice none 0 0] n)
  clear hs ht hg hf
  obtain ⟨z, hze⟩ : ∃ z : Nat → Nat, z = fun i => g (g i) := ⟨_, rfl⟩
  rw [← hze]
  have HZi : Hid (∀ i, g (g i) = z i) := fun i => by rw [hze]
  clear hze
  go_enter Try.func35, Try.ntmps35
  go_wp2
  obtain ⟨W0, hW0⟩ : ∃ W0, W0 = ((w.alloc (.cells #[.slice (some ⟨bS, oS, none⟩) n cS, .slice (some ⟨bT, oT, none⟩) n cT] 24)).alloc (.cells #[.slice none 0 0, .slice none 0 0] 24)).alloc (.cells (madeCells #[.int .i64 0] n) 3) := ⟨_, rfl⟩
  rw [← hW0] at HV0 ⊢
  clear hW0 hmk
  go_loopw [3, 5, 6, 17] (fun V _ _ I wr => ∃ (k : Nat) (A : Option Addr) (c : Nat), V = .slice A (pjN z k).2.length c ∧ I = .int .i64 k ∧ k ≤ n ∧ Hid (NV w wr #[.slice (some ⟨bS, oS, none⟩) n cS, .slice (some ⟨bT, oT, none⟩) n cT] #[.slice none 0 0, .slice none 0 0] n (pjN z k).1 (.slice A (pjN z k).2.length c) (pjN z k).2)) (fun _ _ _ I _ => n - (intOf I).toNat)
  case atStart => exact ⟨0, _, _, rfl, rfl, Nat.zero_le _, HV0.out⟩
  case round =>
    clear HV0
    obtain ⟨k, A, c, rfl, rfl, hk, HV⟩ := hrel
    have hlen := pjN_len z k
    by_cases hlt : k < n
    · have hki : (k : Int) < (n : Int) := by omega
      have h1 := HG.out.lt k hlt
      have h2 := HG.out.lt _ h1
      rw [HZi.out] at h2
      have u1 := fun N => (show (wr.drewN N).cell? ⟨w.heap.size, 0, none⟩ = _ from (two_of_block HV.out.x).1.1)
      have c1 := fun N => (show (wr.drewN N).cell? ⟨bS, oS + k, none⟩ = some (.int .i64 (g k : Nat)) from (HV.out.bel.cell (p := ⟨bS, oS + k, none⟩) HS.out.1).trans (HS.out.2 k hlt))
      have c2 := fun N => (show (wr.drewN N).cell? ⟨bS, oS + g k, none⟩ = some (.int .i64 (g (g k) : Nat)) from (HV.out.bel.cell (p := ⟨bS, oS + g k, none⟩) HS.out.1).trans (HS.out.2 _ h1))
      rw [HZi.out] at c2
      have HO := Lib.hid (fun h => pjN_old (z := z) (k := k) h)
      have HN := Lib.hid (fun h => pjN_new (z := z) (k := k) h)
      have hzk := Lib.hid (show z k = z k from rfl)
      generalize hNe : (pjN z k).1 = N at *
      clear hNe
      generalize (pjN z k).2 = L at *
      generalize hgk : g k = gk at *
      generalize hzk' : z k = zk at *
      clear hgk hzk' hzk
      have i1 : (gk : Int) < (n : Int) := by omega
      have i2 : (zk : Int) < (n : Int) := by omega
      have n1 := fun M => (show (wr.drewN M).cell? ⟨w.heap.size + 1 + 1, zk, none⟩ = _ from HV.out.row.cell (i := zk) h2)
      have n2 := fun M => (show (wr.drewN M).cell? ⟨w.heap.size + 1 + 1, k, none⟩ = _ from HV.out.row.cell (i := k) hlt)
      have nf := fun M j => (show (wr.drewN M).frozen? ⟨w.heap.size + 1 + 1, j, none⟩ = false from HV.out.row.frozen j)
      by_cases hz : zk < k
      · have hzi : (zk : Int) < (k : Int) := by omega
        have HO' := Lib.hid (HO.out hz)
        have H2 := Lib.hid (HV.out.set k (N zk))
        go_wp2
        go_quiet (fail)
        go_wp2
        go_roundw
        case rel => exact ⟨k + 1, A, c, by rw [HO'.out], by go_num, hlt, by rw [HO'.out]; exact (HV.out.drewN _).set k (N zk)⟩
        case measure => simp [intOf]; omega
      · have hzi : ¬ (zk : Int) < (k : Int) := by omega
        have HN' := Lib.hid (HN.out hz)
        have hown : ∀ M, ((wr.drewN M).setCell ⟨w.heap.size + 1 + 1, k, none⟩ (.int .i64 (L.length : Nat))).ownsRow w.heap.size 3 1 (.slice A L.length c) L.length (zs (iz L)) := fun M => ((HV.out.drewN M).set k L.length).own
        have hwz := HV.out.bel.size
        go_wp2
        go_quiet (fail)
        go_wp2_with (first
          | (at_builtin; (refine wpList_append_own_at _ rfl _ _ 22 rfl w.heap.size 3 i0 (.int .i64 0) 1 8 Try.underlying22 hi0 z0 z1 z2 rfl (by decide) _ _ _ rfl ((hown _).alloc _) ⟨wr.heap.size, 0, none⟩ 1 1 [.int .i64 (k : Nat)] rfl rfl (cell_one_new2 _ _ _ (by simp)) (fun x hx => by simp at hx; rw [hx]; rfl) (by unfold maxLen; omega) (by omega) (by simp; omega) ?_); intro v' w4 hown4 hg4 hnil4 hat4; obtain ⟨A2, c2, rfl⟩ := own_len hown4; have HN4 := Lib.hid (((HV.out.drewN _).set k L.length).push hown4 hg4 hat4); clear hown4 hg4 hnil4 hat4)
          | fail)
        go_roundw
        case rel => exact ⟨k + 1, A2, c2, by rw [HN'.out, List.length_append]; rfl, by go_num, hlt, by rw [HN'.out, List.length_append]; exact HN4.out⟩
        case measure => simp [intOf]; omega
    · obtain rfl : k = n := by omega
      have hk2 : ¬ (k : Int) < (k : Int) := by omega
      obtain ⟨W, hW⟩ : ∃ W, W = wr := ⟨_, rfl⟩
      subst hW
      have HQ0 := Lib.hid (qv_start W)
      have HLm : Hid (∀ x ∈ (pjN z k).2, x < k) := pjN_mem z k
      generalize hNe9 : (pjN z k).1 = N at *
      generalize hLe9 : (pjN z k).2 = L at *
      have HNe9 := Lib.hid hNe9
      have HLe9 := Lib.hid hLe9
      clear hNe9 hLe9
      have hbz := HV.out.bel.size
      have HLc : Hid (∀ j, j < L.length → ∃ gl, A = some ⟨gl, 0, none⟩ ∧ gl < W.heap.size ∧ W.cell? ⟨gl, j, none⟩ = some (.int .i64 (L.getD j 0 : Nat))) := fun j hj => by
        obtain ⟨gl, rfl⟩ : ∃ gl, A = some ⟨gl, 0, none⟩ := by
          rcases HV.out.own.2 with ⟨_, h⟩ | ⟨gl, _, _, h, _⟩
          · omega
          · cases h; exact ⟨gl, rfl⟩
        have hc := HV.out.own.cells (g := gl) rfl _ _ (zs_get (iz L) j (by rw [iz_len]; exact hj))
        have e : (⟨gl, 0, none⟩ : Addr).add j = ⟨gl, 0 + j, none⟩ := by unfold Addr.add; split <;> simp_all
        rw [e, Nat.zero_add] at hc
        refine ⟨gl, rfl, (HV.out.own.lt gl rfl).2, ?_⟩
        rw [hc, List.getD_eq_getElem?_getD, List.getElem?_eq_getElem hj]
        simp [iz]
      go_wp2
      go_loopw [9, 51] (fun _ I wr => ∃ (q : Nat) (vS vT : Value), I = .int .i64 q ∧ q ≤ L.length ∧ Hid (QV W wr vS vT ((L.take q).map fun i => N (g i)) ((L.take q).map fun i => N (f i)))) (fun _ I _ => L.length - (intOf I).toNat)
      case atStart => exact ⟨0, _, _, rfl, Nat.zero_le _, HQ0.out⟩
      case round =>
        clear HQ0
        obtain ⟨q, vS, vT, rfl, hq, HQ⟩ := hrel
        by_cases hql : q < L.length
        · have hqi : (q : Int) < (L.length : Int) := by omega
          obtain ⟨gl, rfl, hgl, hlc⟩ := HLc.out q hql
          have hlc' := (HQ.out.bel.cell (p := ⟨gl, q, none⟩) hgl).trans hlc
          have HTk1 : Hid ((L.take (q + 1)).map (fun i => N (g i)) = (L.take q).map (fun i => N (g i)) ++ [N (g (L.getD q 0))]) := by show _ = _; rw [List.take_succ_eq_append_getElem hql, List.map_append, List.getD_eq_getElem?_getD, List.getElem?_eq_getElem hql]; rfl
          have HTk2 : Hid ((L.take (q + 1)).map (fun i => N (f i)) = (L.take q).map (fun i => N (f i)) ++ [N (f (L.getD q 0))]) := by show _ = _; rw [List.take_succ_eq_append_getElem hql, List.map_append, List.getD_eq_getElem?_getD, List.getElem?_eq_getElem hql]; rfl
          have hin : L.getD q 0 < k := HLm.out _ (getD_mem hql)
          have hPl : ((L.take q).map fun i => N (g i)).length = q := by rw [List.length_map, List.length_take, Nat.min_eq_left (by omega)]
          have hPl2 : ((L.take q).map fun i => N (f i)).length = q := by rw [List.length_map, List.length_take, Nat.min_eq_left (by omega)]
          generalize hPS : (L.take q).map (fun i => N (g i)) = PS at *
          generalize hPT : (L.take q).map (fun i => N (f i)) = PT at *
          clear hPS hPT hlc
          generalize L.getD q 0 = i at *
          have hgi := HG.out.lt i hin
          have hfi := HF.out.lt i hin
          have hini : (i : Int) < (k : Int) := by omega
          have hPS1 : PS.length ≤ 1152 := by omega
          have hPT1 : PT.length ≤ 1152 := by omega
          clear hPl hPl2
          have HHd0 : Hid (∀ {w' : World} {vS vT : Value} {P P' : List Nat}, QV W w' vS vT P P' → (w'.cell? ⟨W.heap.size, 0, none⟩ = some vS ∧ w'.cell? ⟨w.heap.size, 0, none⟩ = some (.slice (some ⟨bS, oS, none⟩) k cS)) ∧ w'.cell? ⟨bS, oS + i, none⟩ = some (.int .i64 (g i : Nat)) ∧ w'.cell? ⟨w.heap.size + 1 + 1, g i, none⟩ = some (.int .i64 (N (g i) : Nat))) := fun h =>
            ⟨⟨(two_of_block h.p).1.1, (h.bel.cell (p := ⟨w.heap.size, 0, none⟩) (lt_of_block HV.out.x)).trans (two_of_block HV.out.x).1.1⟩, ((HV.out.bel.trans (h.bel.mono hbz)).cell (p := ⟨bS, oS + i, none⟩) HS.out.1).trans (HS.out.2 i hin), (h.bel.cell (p := ⟨w.heap.size + 1 + 1, g i, none⟩) HV.out.row.lt).trans (HV.out.row.cell (i := g i) hgi)⟩
          have HHd1 : Hid (∀ {w' : World} {vS vT : Value} {P P' : List Nat}, QV W w' vS vT P P' → (w'.cell? ⟨W.heap.size, 1, none⟩ = some vT ∧ w'.cell? ⟨w.heap.size, 1, none⟩ = some (.slice (some ⟨bT, oT, none⟩) k cT)) ∧ w'.cell? ⟨bT, oT + i, none⟩ = some (.int .i64 (f i : Nat)) ∧ w'.cell? ⟨w.heap.size + 1 + 1, f i, none⟩ = some (.int .i64 (N (f i) : Nat))) := fun h =>
            ⟨⟨(two_of_block h.p).1.2, (h.bel.cell (p := ⟨w.heap.size, 1, none⟩) (lt_of_block HV.out.x)).trans (two_of_block HV.out.x).1.2⟩, ((HV.out.bel.trans (h.bel.mono hbz)).cell (p := ⟨bT, oT + i, none⟩) HT.out.1).trans (HT.out.2 i hin), (h.bel.cell (p := ⟨w.heap.size + 1 + 1, f i, none⟩) HV.out.row.lt).trans (HV.out.row.cell (i := f i) hfi)⟩
          generalize g i = gi at *
          generalize f i = fi at *
          generalize N gi = ng at *
          generalize N fi = nf at *
          have hgii : (gi : Int) < (k : Int) := by omega
          have hfii : (fi : Int) < (k : Int) := by omega
          have HQa := Lib.hid HQ.out.drew
          go_upto_region 16 with fail
          go_cut [9] (fun s9 wx => s9 = .int .i64 (i : Nat) ∧ ∃ vS', Hid (QV W wx vS' vT (PS ++ [ng]) PT))
          case first =>
            obtain ⟨wd0, hwd0⟩ : ∃ wd0, wd0 = wr.drew := ⟨_, rfl⟩
            have HQd : Hid (QV W wd0 vS vT PS PT) := by rw [hwd0]; exact HQa.out
            refine region_E 11 (fun w' => (w'.cell? ⟨W.heap.size, 0, none⟩ = some vS ∧ w'.cell? ⟨w.heap.size, 0, none⟩ = some (.slice (some ⟨bS, oS, none⟩) k cS)) ∧ w'.cell? ⟨bS, oS + i, none⟩ = some (.int .i64 (gi : Nat)) ∧ w'.cell? ⟨w.heap.size + 1 + 1, gi, none⟩ = some (.int .i64 (ng : Nat))) (by kernel_rfl) ?_
            rw [← hwd0]
            clear hwd0
            have hHeld := HHd0.out HQd.out
            refine take_E (n := 11) (i := 0) (v := ?va_0) rfl (by kernel_rfl) (fun _ _ _ h => h) ?hya_0 (by rfl) hHeld ?resta_0
            case hya_0 => (intro w9 hSw; (try dsimp only at hSw); go_simp <;> with_reducible rfl)
            (try simp only [Act.put, List.setIfInBounds_toArray, List.set_cons_zero, List.set_cons_succ])
            refine take_E (n := 11) (i := 1) (v := ?va_1) rfl (by kernel_rfl) (fun _ _ _ h => h) ?hya_1 (by rfl) hHeld ?resta_1
            case hya_1 => (intro w9 hSw; (try dsimp only at hSw); go_simp <;> with_reducible rfl)
            (try simp only [Act.put, List.setIfInBounds_toArray, List.set_cons_zero, List.set_cons_succ])
            refine take_E (n := 11) (i := 2) (v := ?va_2) rfl (by kernel_rfl) (fun _ _ _ h => h) ?hya_2 (by rfl) hHeld ?resta_2
            case hya_2 => (intro w9 hSw; (try dsimp only at hSw); go_simp <;> with_reducible rfl)
            (try simp only [Act.put, List.setIfInBounds_toArray, List.set_cons_zero, List.set_cons_succ])
            refine take_E (n := 11) (i := 3) (v := ?va_3) rfl (by kernel_rfl) (fun _ _ _ h => h) ?hya_3 (by rfl) hHeld ?resta_3
            case hya_3 => (intro w9 hSw; (try dsimp only at hSw); go_simp <;> with_reducible rfl)
            (try simp only [Act.put, List.setIfInBounds_toArray, List.set_cons_zero, List.set_cons_succ])
            refine take_E (n := 11) (i := 4) (v := ?va_4) rfl (by kernel_rfl) (fun _ _ _ h => h) ?hya_4 (by rfl) hHeld ?resta_4
            case hya_4 => (intro w9 hSw; (try dsimp only at hSw); go_simp <;> with_reducible rfl)
            (try simp only [Act.put, List.setIfInBounds_toArray, List.set_cons_zero, List.set_cons_succ])
            refine take_E (n := 11) (i := 5) (v := ?va_5) rfl (by kernel_rfl) (fun _ _ _ h => h) ?hya_5 (by rfl) hHeld ?resta_5
            case hya_5 => (intro w9 hSw; (try dsimp only at hSw); go_simp <;> with_reducible rfl)
            (try simp only [Act.put, List.setIfInBounds_toArray, List.set_cons_zero, List.set_cons_succ])
            refine take_E (n := 11) (i := 6) (v := ?va_6) rfl (by kernel_rfl) (fun _ _ _ h => h) ?hya_6 (by rfl) hHeld ?resta_6
            case hya_6 => (intro w9 hSw; (try dsimp only at hSw); go_simp <;> with_reducible rfl)
            (try simp only [Act.put, List.setIfInBounds_toArray, List.set_cons_zero, List.set_cons_succ])
            refine take_E (n := 11) (i := 7) (v := ?va_7) rfl (by kernel_rfl) (fun _ _ _ h => h) ?hya_7 (by rfl) hHeld ?resta_7
            case hya_7 => (intro w9 hSw; (try dsimp only at hSw); go_simp <;> with_reducible rfl)
            (try simp only [Act.put, List.setIfInBounds_toArray, List.set_cons_zero, List.set_cons_succ])
            refine take_E (n := 11) (i := 8) (v := ?va_8) rfl (by kernel_rfl) (fun _ _ _ h => h) ?hya_8 (by rfl) hHeld ?resta_8
            case hya_8 => (intro w9 hSw; (try dsimp only at hSw); go_simp <;> with_reducible rfl)
            (try simp only [Act.put, List.setIfInBounds_toArray, List.set_cons_zero, List.set_cons_succ])
            refine take_E (n := 11) (i := 9) (v := ?va_9) rfl (by kernel_rfl) (fun _ _ _ h => h) ?hya_9 (by rfl) hHeld ?resta_9
            case hya_9 => (intro w9 hSw; (try dsimp only at hSw); go_simp <;> with_reducible rfl)
            (try simp only [Act.put, List.setIfInBounds_toArray, List.set_cons_zero, List.set_cons_succ])
            refine one_E (n := 11) (i := 10) (by kernel_rfl) rfl (fun K hK => ?_)
            go_simp
            refine hK.out _ _ (fun _ => HHd0.out (HQd.out.alloc _)) (fun hHeld10 => ?_)
            clear hK K
            (try simp only [Act.put, List.setIfInBounds_toArray, List.set_cons_zero, List.set_cons_succ])
            refine one_E (n := 11) (i := 11) (by kernel_rfl) rfl (fun K hK => ?_)
            refine step_append_lies _ (by rfl) _ _ _ (by rfl) (W.heap.size + 1) 3 i0 _ 1 8 Try.underlying22 hi0 z0 z1 z2 rfl (by omega) vS PS.length (zs (iz PS)) (by rfl) (HQd.out.alloc _).rS ⟨wd0.heap.size, 0, none⟩ 1 1 [.int .i64 (ng : Nat)] (by rfl) (by rfl) (World.news_of_block (cs := #[.int .i64 (ng : Nat)]) (t := 3) (fr := (0, 0)) (heap_alloc_new wd0 _)) (by simp [Value.oneCell']) (by omega) (by unfold maxLen; omega) (by omega) (by have := lt_of_block HQd.out.p; simp; omega) (wd0.heap.size + 1) (by simp) ?_
            intro gg cap' p2 hown2 hgrow hat hlt3
            obtain ⟨hpb, hq9⟩ := (HQd.out.alloc _).pushS hown2 hgrow (by simpa using hat)
            have HQb := Lib.hid hq9
            have fz := (two_of_block hpb).2
            have qz := (two_of_block hpb).1
            clear hown2 hgrow hat hq9
            refine hK.out _ _ (fun h => absurd h (by decide)) (fun hHeld11 => ?_)
            clear hK K
            (try simp only [Act.put, List.setIfInBounds_toArray, List.set_cons_zero, List.set_cons_succ])
            refine one_E (n := 11) (i := 12) (by kernel_rfl) rfl (fun K hK => ?_)
            go_simp
            refine hK.out _ _ (fun h => absurd h (by decide)) (fun hHeld12 => ?_)
            clear hK K
            (try simp only [Act.put, List.setIfInBounds_toArray, List.set_cons_zero, List.set_cons_succ])
            refine one_E (n := 11) (i := 13) (by kernel_rfl) rfl (fun K hK => ?_)
            go_simp
            refine hK.out _ _ (fun h => absurd h (by decide)) (fun hHeld13 => ?_)
            clear hK K
            (try simp only [Act.put, List.setIfInBounds_toArray, List.set_cons_zero, List.set_cons_succ])
            refine done_E (by kernel_rfl) ?_ _
            go_wp2_with fail
            go_meet
            exact ⟨rfl, _, HQb⟩
          case rest =>
            obtain ⟨rfl, vS', HQ1⟩ := hcut
            clear HQa HQ hlc'
            go_wp2
            have HQe := Lib.hid HQ1.drew
            obtain ⟨wd1, hwd1⟩ : ∃ wd1, wd1 = wc.drew := ⟨_, rfl⟩
            have HQf : Hid (QV W wd1 vS' vT (PS ++ [ng]) PT) := by rw [hwd1]; exact HQe.out
            refine region_E 11 (fun w' => (w'.cell? ⟨W.heap.size, 1, none⟩ = some vT ∧ w'.cell? ⟨w.heap.size, 1, none⟩ = some (.slice (some ⟨bT, oT, none⟩) k cT)) ∧ w'.cell? ⟨bT, oT + i, none⟩ = some (.int .i64 (fi : Nat)) ∧ w'.cell? ⟨w.heap.size + 1 + 1, fi, none⟩ = some (.int .i64 (nf : Nat))) (by kernel_rfl) ?_
            rw [← hwd1]
            clear hwd1
            have hHeld := HHd1.out HQf.out
            refine take_E (n := 11) (i := 0) (v := ?vb_0) rfl (by kernel_rfl) (fun _ _ _ h => h) ?hyb_0 (by rfl) hHeld ?restb_0
            case hyb_0 => (intro w9 hSw; (try dsimp only at hSw); go_simp <;> with_reducible rfl)
            (try simp only [Act.put, List.setIfInBounds_toArray, List.set_cons_zero, List.set_cons_succ])
            refine take_E (n := 11) (i := 1) (v := ?vb_1) rfl (by kernel_rfl) (fun _ _ _ h => h) ?hyb_1 (by rfl) hHeld ?restb_1
            case hyb_1 => (intro w9 hSw; (try dsimp only at hSw); go_simp <;> with_reducible rfl)
            (try simp only [Act.put, List.setIfInBounds_toArray, List.set_cons_zero, List.set_cons_succ])
            refine take_E (n := 11) (i := 2) (v := ?vb_2) rfl (by kernel_rfl) (fun _ _ _ h => h) ?hyb_2 (by rfl) hHeld ?restb_2
            case hyb_2 => (intro w9 hSw; (try dsimp only at hSw); go_simp <;> with_reducible rfl)
            (try simp only [Act.put, List.setIfInBounds_toArray, List.set_cons_zero, List.set_cons_succ])
            refine take_E (n := 11) (i := 3) (v := ?vb_3) rfl (by kernel_rfl) (fun _ _ _ h => h) ?hyb_3 (by rfl) hHeld ?restb_3
            case hyb_3 => (intro w9 hSw; (try dsimp only at hSw); go_simp <;> with_reducible rfl)
            (try simp only [Act.put, List.setIfInBounds_toArray, List.set_cons_zero, List.set_cons_succ])
            refine take_E (n := 11) (i := 4) (v := ?vb_4) rfl (by kernel_rfl) (fun _ _ _ h => h) ?hyb_4 (by rfl) hHeld ?restb_4
            case hyb_4 => (intro w9 hSw; (try dsimp only at hSw); go_simp <;> with_reducible rfl)
            (try simp only [Act.put, List.setIfInBounds_toArray, List.set_cons_zero, List.set_cons_succ])
            refine take_E (n := 11) (i := 5) (v := ?vb_5) rfl (by kernel_rfl) (fun _ _ _ h => h) ?hyb_5 (by rfl) hHeld ?restb_5
            case hyb_5 => (intro w9 hSw; (try dsimp only at hSw); go_simp <;> with_reducible rfl)
            (try simp only [Act.put, List.setIfInBounds_toArray, List.set_cons_zero, List.set_cons_succ])
            refine take_E (n := 11) (i := 6) (v := ?vb_6) rfl (by kernel_rfl) (fun _ _ _ h => h) ?hyb_6 (by rfl) hHeld ?restb_6
            case hyb_6 => (intro w9 hSw; (try dsimp only at hSw); go_simp <;> with_reducible rfl)
            (try simp only [Act.put, List.setIfInBounds_toArray, List.set_cons_zero, List.set_cons_succ])
            refine take_E (n := 11) (i := 7) (v := ?vb_7) rfl (by kernel_rfl) (fun _ _ _ h => h) ?hyb_7 (by rfl) hHeld ?restb_7
            case hyb_7 => (intro w9 hSw; (try dsimp only at hSw); go_simp <;> with_reducible rfl)
            (try simp only [Act.put, List.setIfInBounds_toArray, List.set_cons_zero, List.set_cons_succ])
            refine take_E (n := 11) (i := 8) (v := ?vb_8) rfl (by kernel_rfl) (fun _ _ _ h => h) ?hyb_8 (by rfl) hHeld ?restb_8
            case hyb_8 => (intro w9 hSw; (try dsimp only at hSw); go_simp <;> with_reducible rfl)
            (try simp only [Act.put, List.setIfInBounds_toArray, List.set_cons_zero, List.set_cons_succ])
            refine take_E (n := 11) (i := 9) (v := ?vb_9) rfl (by kernel_rfl) (fun _ _ _ h => h) ?hyb_9 (by rfl) hHeld ?restb_9
            case hyb_9 => (intro w9 hSw; (try dsimp only at hSw); go_simp <;> with_reducible rfl)
            (try simp only [Act.put, List.setIfInBounds_toArray, List.set_cons_zero, List.set_cons_succ])
            refine one_E (n := 11) (i := 10) (by kernel_rfl) rfl (fun K hK => ?_)
            go_simp
            refine hK.out _ _ (fun _ => HHd1.out (HQf.out.alloc _)) (fun hHeld10 => ?_)
            clear hK K
            (try simp only [Act.put, List.setIfInBounds_toArray, List.set_cons_zero, List.set_cons_succ])
            refine one_E (n := 11) (i := 11) (by kernel_rfl) rfl (fun K hK => ?_)
            refine step_append_lies _ (by rfl) _ _ _ (by rfl) (W.heap.size + 1) 3 i0 _ 1 8 Try.underlying22 hi0 z0 z1 z2 rfl (by omega) vT PT.length (zs (iz PT)) (by rfl) (HQf.out.alloc _).rT ⟨wd1.heap.size, 0, none⟩ 1 1 [.int .i64 (nf : Nat)] (by rfl) (by rfl) (World.news_of_block (cs := #[.int .i64 (nf : Nat)]) (t := 3) (fr := (0, 0)) (heap_alloc_new wd1 _)) (by simp [Value.oneCell']) (by omega) (by unfold maxLen; omega) (by omega) (by have := lt_of_block HQf.out.p; simp; omega) (wd1.heap.size + 1) (by simp) ?_
            intro gg cap' p2 hown2 hgrow hat hlt3
            obtain ⟨hpb, hq9⟩ := (HQf.out.alloc _).pushT hown2 hgrow (by simpa using hat)
            have HQc := Lib.hid hq9
            have fz := (two_of_block hpb).2
            have qz := (two_of_block hpb).1
            clear hown2 hgrow hat hq9
            refine hK.out _ _ (fun h => absurd h (by decide)) (fun hHeld11 => ?_)
            clear hK K
            (try simp only [Act.put, List.setIfInBounds_toArray, List.set_cons_zero, List.set_cons_succ])
            refine one_E (n := 11) (i := 12) (by kernel_rfl) rfl (fun K hK => ?_)
            go_simp
            refine hK.out _ _ (fun h => absurd h (by decide)) (fun hHeld12 => ?_)
            clear hK K
            (try simp only [Act.put, List.setIfInBounds_toArray, List.set_cons_zero, List.set_cons_succ])
            refine one_E (n := 11) (i := 13) (by kernel_rfl) rfl (fun K hK => ?_)
            go_simp
            refine hK.out _ _ (fun h => absurd h (by decide)) (fun hHeld13 => ?_)
            clear hK K
            (try simp only [Act.put, List.setIfInBounds_toArray, List.set_cons_zero, List.set_cons_succ])
            refine done_E (by kernel_rfl) ?_ _
            go_wp2
            go_roundw
            case rel => exact ⟨q + 1, _, _, by go_num, hql, by rw [HTk1.out, HTk2.out]; exact HQc.out⟩
            case measure => simp [intOf]; omega
        · obtain rfl : q = L.length := by omega
          have hq2 : ¬ (L.length : Int) < (L.length : Int) := by omega
          have HTk : Hid (L.take L.length = L) := List.take_length
          rw [HTk.out] at HQ
          obtain ⟨A1, c1, rfl⟩ := own_len HQ.out.rS
          obtain ⟨A2, c2, rfl⟩ := own_len HQ.out.rT
          have HSr := Lib.hid HQ.out.rS
          have HTr := Lib.hid HQ.out.rT
          have HPx := Lib.hid HQ.out.p
          rw [List.length_map] at HSr HTr HPx
          rw [List.length_map] at HPx
          have HRx : Hid (wr.heap[w.heap.size + 1]? = some (.cells #[.slice none 0 0, .slice none 0 0] 24 (0, 0))) := (HQ.out.bel.block _ (lt_of_block HV.out.r)).trans HV.out.r
          have HBx := Lib.hid (HV.out.bel.trans (HQ.out.bel.mono hbz))
          have hlr := lt_of_block HV.out.r
          obtain ⟨⟨p1, p2⟩, pf⟩ := two_of_block HPx.out
          obtain ⟨⟨r1, r2⟩, rf⟩ := two_of_block HRx.out
          have hzz := lt_of_block HRx.out
          clear HQ
          go_wp2
          have hrl := two_set1 (two_set0 HRx.out (.slice A1 L.length c1)) (.slice A2 L.length c2)
          obtain ⟨⟨s1, s2⟩, _⟩ := two_of_block hrl
          refine bodyPost_ret (v := .agg #[.slice A1 L.length c1, .slice A2 L.length c2]) ?_ rfl ⟨A1, c1, A2, c2, by rw [HLe9.out], ?_, ?_, (HBx.out.setCell (by show _ ≤ w.heap.size + 1; omega) _).setCell (by show _ ≤ w.heap.size + 1; omega) _⟩
          · simp [results, Try.results35, go_sem, s1, s2]
          · rw [HLe9.out, HNe9.out]; exact own_base (B := W.heap.size + 1) (by omega) (own_set (own_set HSr.out (by omega) _) (by omega) _)
          · rw [HLe9.out, HNe9.out]; exact own_base (B := W.heap.size + 1) (by omega) (own_set (own_set HTr.out (by omega) _) (by omega) _)
end Go.Proofs.Ytmikhkolbkdnpaa
