/- The reference's Line and Number. -/
import Derived.Test.YtmikhkolbkdnpaaProL
import Derived.Laws.MakeOwn
import Derived.Deep.DeepCutAuto
import Derived.Deep.CutBlock
import Derived.Deep.RegionHeld3
import Derived.IntWalk
import Derived.Deep.AppendLies
namespace Go.Proofs.Ytmikhkolbkdnpaa
open Go.RowKit
set_option linter.unusedVariables false
set_option linter.unusedSimpArgs false

/-- The first loop's world: a row of numbers at rb, the least points, the boxes. -/
structure NW (w wr : World) (rb : Nat) (xs ys : Array Value) (n : Nat) (N : Nat → Nat) (v : Value) (L : List Nat) : Prop where
  row : wr.rowIs rb 3 n (fun j => .int .i64 (N j : Nat))
  own : wr.ownsRow w.heap.size 3 1 v L.length (zs (iz L))
  x : wr.heap[w.heap.size]? = some (.cells xs 24 (0, 0))
  r : wr.heap[w.heap.size + 1]? = some (.cells ys 24 (0, 0))
  bel : Below w.heap.size w wr
  ne : some rb ≠ v.ownBlock
  ge : w.heap.size + 1 < rb
section
variable {w wr w' : World} {rb : Nat} {xs ys : Array Value} {n : Nat} {N : Nat → Nat} {v v' : Value} {L : List Nat}
theorem NW.drewN (h : NW w wr rb xs ys n N v L) (m : Nat) : NW w (wr.drewN m) rb xs ys n N v L := ⟨h.row.of_block rfl, own_low h.own fun _ _ => rfl, h.x, h.r, below_drewN h.bel m, h.ne, h.ge⟩
theorem NW.set (h : NW w wr rb xs ys n N v L) (x a : Nat) : NW w (wr.setCell ⟨rb, x, none⟩ (.int .i64 (a : Nat))) rb xs ys n (fun j => if j = x then a else N j) v L := by
  have hge := h.ge
  refine ⟨World.rowIs.congr (h.row.set x _) fun j _ => (by by_cases e : j = x <;> simp [e]), ?_, set_ne h.x (by omega) _, set_ne h.r (by omega) _, h.bel.setCell (by show _ ≤ rb; omega) _, h.ne, h.ge⟩
  exact h.own.kept (row := some rb) ⟨rfl, rfl, rfl, by simp, fun k _ hk => Below.heap_setCell wr ⟨rb, x, none⟩ _ k (fun e => hk (by rw [e]))⟩ (.inr fun e => h.ne e.symm)
theorem NW.push (h : NW w wr rb xs ys n N v L) {p : Nat} {o : Obj} (hown : w'.ownsRow w.heap.size 3 1 v' (L.length + 1) (zs (iz L) ++ [.int .i64 (p : Nat)])) (hg : (wr.alloc o).grownBy w' v.ownBlock) (hat : v'.ownBlock = v.ownBlock ∨ v'.ownBlock = some (wr.alloc o).heap.size) : NW w w' rb xs ys n N v' (L ++ [p]) := by
  have hlt := h.row.lt
  refine ⟨h.row.of_block ?_, by rw [List.length_append, iz_append, zs_append]; exact hown, ?_, ?_, ?_, ?_, h.ge⟩
  · rw [hg.block _ (by simp; omega) h.ne, Below.heap_alloc _ _ _ hlt]
  · exact (hg.block _ (by have := lt_of_block h.x; simp; omega) (row_ne2 h.x h.own (by decide))).trans (block_alloc h.x o)
  · exact (hg.block _ (by have := lt_of_block h.r; simp; omega) (row_ne2 h.r h.own (by decide))).trans (block_alloc h.r o)
  · exact (h.bel.alloc h.bel.size o).grown hg (by have := h.bel.size; simp; omega) fun j hj => (h.own.lt j hj).1
  · rcases hat with e | e
    · rw [e]; exact h.ne
    · rw [e]; simp; omega
end
/-- The numbers behind the places below k of a list. -/
def plN (l : Nat → Nat) : Nat → Nat → Nat
  | 0 => fun _ => 0
  | k + 1 => fun j => if j = l k then k else plN l k j
theorem NW.of_nv {w wr : World} {xs ys : Array Value} {n : Nat} {N : Nat → Nat} {v : Value} {L : List Nat} (h : NV w wr xs ys n N v L) : NW w wr (w.heap.size + 1 + 1) xs ys n N v L := ⟨h.row, h.own, h.x, h.r, h.bel, h.ne, by omega⟩
theorem lineO_start (w : World) (B : Nat) : w.ownsRow B 3 1 (.slice none 0 0) 0 (zs (iz (List.range 0))) := World.ownsRow_nil _ _ _ _
set_option maxHeartbeats 1600000 in
set_option maxRecDepth 1000000 in
theorem rline_any {n : Nat} (w : World) (hn : n ≤ 1152) :
    Calls Try.prog 59 #[.int .i64 (n : Nat)] w fun e w' => ∃ A c, e = .returned (.slice A n c) ∧ w'.ownsRow w.heap.size 3 1 (.slice A n c) n (zs (iz (List.range n))) ∧ Below w.heap.size w w' := by
  obtain ⟨i0, hi0, z0, z1, z2⟩ := info_parts Try.infoInt
  have H0 := Lib.hid (World.ownsRow_nil w w.heap.size 3 1)
  go_enter Try.func59, Try.ntmps59
  go_wp2
  go_loopw [3, 4] (fun V I wr => ∃ (k : Nat) (A : Option Addr) (c : Nat), V = .slice A k c ∧ I = .int .i64 k ∧ k ≤ n ∧ Hid (wr.ownsRow w.heap.size 3 1 (.slice A k c) k (zs (iz (List.range k)))) ∧ Hid (Below w.heap.size w wr)) (fun _ I _ => n - (intOf I).toNat)
  case atStart => exact ⟨0, none, 0, rfl, rfl, Nat.zero_le _, H0.out, Below.refl _ _⟩
  case round =>
    clear H0
    obtain ⟨k, A, c, rfl, rfl, hk, HO, HB⟩ := hrel
    by_cases hlt : k < n
    · have hki : (k : Int) < (n : Int) := by omega
      have hsz := HB.out.size
      have HR : Hid (zs (iz (List.range (k + 1))) = zs (iz (List.range k)) ++ [.int .i64 (k : Nat)]) := by show _ = _; rw [List.range_succ, iz_append, zs_append]; rfl
      go_wp2_with (first
        | (at_builtin; (refine wpList_append_own_at _ rfl _ _ 22 rfl w.heap.size 3 i0 (.int .i64 0) 1 8 Try.underlying22 hi0 z0 z1 z2 rfl (by decide) _ _ _ rfl (HO.out.alloc _) ⟨wr.heap.size, 0, none⟩ 1 1 [.int .i64 (k : Nat)] rfl rfl (cell_one_new' _ _ _) (fun x hx => by simp at hx; rw [hx]; rfl) (by unfold maxLen; omega) (by omega) (by simp; omega) ?_); intro v' w4 hown4 hg4 hnil4 hat4; obtain ⟨A2, c2, rfl⟩ := own_len hown4; have HN := Lib.hid hown4; have HB4 : Hid (Below w.heap.size w w4) := (HB.out.alloc hsz _).grown hg4 (by simp; omega) fun j hj => (HO.out.lt j hj).1; clear hown4 hg4 hnil4 hat4)
        | fail)
      go_roundw
      case rel => exact ⟨k + 1, A2, c2, rfl, by go_num, hlt, by rw [HR.out]; exact HN.out, HB4.out⟩
      case measure => simp [intOf]; omega
    · obtain rfl : k = n := by omega
      have hk2 : ¬ (k : Int) < (k : Int) := by omega
      go_wp2
      go_ret
      exact ⟨A, c, rfl, HO.out, HB.out⟩
set_option maxHeartbeats 6400000 in
set_option maxRecDepth 1000000 in
theorem rnumber_any {g f l : Nat → Nat} {n bS oS bT oT bL oL cS cT cL : Nat} (w : World) (hs : RdN w w.heap.size bS oS n g) (ht : RdN w w.heap.size bT oT n f) (hl : RdN w w.heap.size bL oL n l) (hg : Prm g n) (hf : Prm f n) (hlp : ∀ i, i < n → l i < n) (hn : n ≤ 1152) :
    Calls Try.prog 58 #[.agg #[.slice (some ⟨bS, oS, none⟩) n cS, .slice (some ⟨bT, oT, none⟩) n cT], .slice (some ⟨bL, oL, none⟩) n cL] w fun e w' => ∃ A c A' c', e = .returned (.agg #[.slice A n c, .slice A' n c']) ∧
      w'.ownsRow w.heap.size 3 1 (.slice A n c) n (zs (iz ((List.range n).map fun i => plN l n (g (l i))))) ∧
      w'.ownsRow w.heap.size 3 1 (.slice A' n c') n (zs (iz ((List.range n).map fun i => plN l n (f (l i))))) ∧ Below w.heap.size w w' := by
  obtain ⟨i0, hi0, z0, z1, z2⟩ := info_parts Try.infoInt
  have hmk := fun W => mk_int2 n W hn
  have HG := Lib.hid hg
  have HF := Lib.hid hf
  have HS := Lib.hid hs
  have HT := Lib.hid ht
  have HL := Lib.hid hl
  have HLm := Lib.hid hlp
  have HV0 := Lib.hid (NW.of_nv (nv_start w #[.slice (some ⟨bS, oS, none⟩) n cS, .slice (some ⟨bT, oT, none⟩) n cT] #[.slice none 0 0, .slice none 0 0] n))
  clear hs ht hg hf hl hlp
  go_enter Try.func58, Try.ntmps58
  go_wp2
  obtain ⟨W0, hW0⟩ : ∃ W0, W0 = ((w.alloc (.cells #[.slice (some ⟨bS, oS, none⟩) n cS, .slice (some ⟨bT, oT, none⟩) n cT] 24)).alloc (.cells #[.slice none 0 0, .slice none 0 0] 24)).alloc (.cells (madeCells #[.int .i64 0] n) 3) := ⟨_, rfl⟩
  rw [← hW0] at HV0 ⊢
  clear hW0 hmk
  go_loopw [6] (fun I wr => ∃ (k : Nat), I = .int .i64 k ∧ k ≤ n ∧ Hid (NW w wr (w.heap.size + 1 + 1) #[.slice (some ⟨bS, oS, none⟩) n cS, .slice (some ⟨bT, oT, none⟩) n cT] #[.slice none 0 0, .slice none 0 0] n (plN l k) (.slice none 0 0) [])) (fun I _ => n - (intOf I).toNat)
  case atStart => exact ⟨0, rfl, Nat.zero_le _, HV0.out⟩
  case round =>
    clear HV0
    obtain ⟨k, rfl, hk, HV⟩ := hrel
    by_cases hlt : k < n
    · have hki : (k : Int) < (n : Int) := by omega
      have h1 := HLm.out k hlt
      have c1 := (HV.out.bel.cell (p := ⟨bL, oL + k, none⟩) HL.out.1).trans (HL.out.2 k hlt)
      have H2 : Hid (NW w (wr.setCell ⟨w.heap.size + 1 + 1, l k, none⟩ (.int .i64 (k : Nat))) (w.heap.size + 1 + 1) #[.slice (some ⟨bS, oS, none⟩) n cS, .slice (some ⟨bT, oT, none⟩) n cT] #[.slice none 0 0, .slice none 0 0] n (plN l (k + 1)) (.slice none 0 0) []) := HV.out.set (l k) k
      have n1 := HV.out.row.cell (i := l k) h1
      have nf := HV.out.row.frozen (l k)
      generalize l k = x at *
      have hxi : (x : Int) < (n : Int) := by omega
      go_wp2
      go_roundw
      case rel => exact ⟨k + 1, by go_num, hlt, H2.out⟩
      case measure => simp [intOf]; omega
    · obtain rfl : k = n := by omega
      have hk2 : ¬ (k : Int) < (k : Int) := by omega
      generalize hNe9 : plN l k = N at *
      have HNe9 := Lib.hid hNe9
      clear hNe9
      obtain ⟨n, hnk⟩ : ∃ n, n = k := ⟨_, rfl⟩
      subst hnk
      obtain ⟨W, hW⟩ : ∃ W, W = wr := ⟨_, rfl⟩
      rw [← hW] at HV ⊢
      clear hW
      have HQ0 := Lib.hid (qv_start W)
      have hbz := HV.out.bel.size
      go_wp2
      go_loopw [8] (fun I wr => ∃ (q : Nat) (vS vT : Value), I = .int .i64 q ∧ q ≤ n ∧ Hid (QV W wr vS vT (((List.range q)).map fun i => N (g (l i))) (((List.range q)).map fun i => N (f (l i))))) (fun I _ => n - (intOf I).toNat)
      case atStart => exact ⟨0, _, _, rfl, Nat.zero_le _, HQ0.out⟩
      case round =>
        clear HQ0
        obtain ⟨q, vS, vT, rfl, hq, HQ⟩ := hrel
        by_cases hql : q < n
        · have hqi : (q : Int) < (n : Int) := by omega
          have HLq : Hid (∀ {w' : World} {vS vT : Value} {P P' : List Nat}, QV W w' vS vT P P' → w'.cell? ⟨bL, oL + q, none⟩ = some (.int .i64 (l q : Nat))) := fun h => ((HV.out.bel.trans (h.bel.mono hbz)).cell (p := ⟨bL, oL + q, none⟩) HL.out.1).trans (HL.out.2 q hql)
          have HTk1 : Hid ((List.range (q + 1)).map (fun i => N (g (l i))) = (List.range q).map (fun i => N (g (l i))) ++ [N (g (l q))]) := by show _ = _; rw [List.range_succ, List.map_append]; rfl
          have HTk2 : Hid ((List.range (q + 1)).map (fun i => N (f (l i))) = (List.range q).map (fun i => N (f (l i))) ++ [N (f (l q))]) := by show _ = _; rw [List.range_succ, List.map_append]; rfl
          have hin : l q < n := HLm.out _ hql
          have hPl : ((List.range q).map fun i => N (g (l i))).length = q := by rw [List.length_map, List.length_range]
          have hPl2 : ((List.range q).map fun i => N (f (l i))).length = q := by rw [List.length_map, List.length_range]
          have hlen2 : n ≤ 1152 := hn
          generalize hPS : (List.range q).map (fun i => N (g (l i))) = PS at *
          generalize hPT : (List.range q).map (fun i => N (f (l i))) = PT at *
          clear hPS hPT
          generalize l q = i at *
          have hgi := HG.out.lt i hin
          have hfi := HF.out.lt i hin
          have hini : (i : Int) < (n : Int) := by omega
          have hPS1 : PS.length ≤ 1152 := by omega
          have hPT1 : PT.length ≤ 1152 := by omega
          clear hPl hPl2 hlen2
          have HHd0 : Hid (∀ {w' : World} {vS vT : Value} {P P' : List Nat}, QV W w' vS vT P P' → (w'.cell? ⟨W.heap.size, 0, none⟩ = some vS ∧ w'.cell? ⟨w.heap.size, 0, none⟩ = some (.slice (some ⟨bS, oS, none⟩) n cS)) ∧ w'.cell? ⟨bS, oS + i, none⟩ = some (.int .i64 (g i : Nat)) ∧ w'.cell? ⟨w.heap.size + 1 + 1, g i, none⟩ = some (.int .i64 (N (g i) : Nat)) ∧ w'.cell? ⟨bL, oL + q, none⟩ = some (.int .i64 (i : Nat))) := fun h =>
            ⟨⟨(two_of_block h.p).1.1, (h.bel.cell (p := ⟨w.heap.size, 0, none⟩) (lt_of_block HV.out.x)).trans (two_of_block HV.out.x).1.1⟩, ((HV.out.bel.trans (h.bel.mono hbz)).cell (p := ⟨bS, oS + i, none⟩) HS.out.1).trans (HS.out.2 i hin), (h.bel.cell (p := ⟨w.heap.size + 1 + 1, g i, none⟩) HV.out.row.lt).trans (HV.out.row.cell (i := g i) hgi), HLq.out h⟩
          have HHd1 : Hid (∀ {w' : World} {vS vT : Value} {P P' : List Nat}, QV W w' vS vT P P' → (w'.cell? ⟨W.heap.size, 1, none⟩ = some vT ∧ w'.cell? ⟨w.heap.size, 1, none⟩ = some (.slice (some ⟨bT, oT, none⟩) n cT)) ∧ w'.cell? ⟨bT, oT + i, none⟩ = some (.int .i64 (f i : Nat)) ∧ w'.cell? ⟨w.heap.size + 1 + 1, f i, none⟩ = some (.int .i64 (N (f i) : Nat)) ∧ w'.cell? ⟨bL, oL + q, none⟩ = some (.int .i64 (i : Nat))) := fun h =>
            ⟨⟨(two_of_block h.p).1.2, (h.bel.cell (p := ⟨w.heap.size, 1, none⟩) (lt_of_block HV.out.x)).trans (two_of_block HV.out.x).1.2⟩, ((HV.out.bel.trans (h.bel.mono hbz)).cell (p := ⟨bT, oT + i, none⟩) HT.out.1).trans (HT.out.2 i hin), (h.bel.cell (p := ⟨w.heap.size + 1 + 1, f i, none⟩) HV.out.row.lt).trans (HV.out.row.cell (i := f i) hfi), HLq.out h⟩
          generalize g i = gi at *
          generalize f i = fi at *
          generalize N gi = ng at *
          generalize N fi = nf at *
          have hgii : (gi : Int) < (n : Int) := by omega
          have hfii : (fi : Int) < (n : Int) := by omega
          have HQa := Lib.hid HQ.out.drew
          go_upto_region 10 with fail
          go_cut [8] (fun s9 wx => s9 = .int .i64 (q : Nat) ∧ ∃ vS', Hid (QV W wx vS' vT (PS ++ [ng]) PT))
          case first =>
            obtain ⟨wd0, hwd0⟩ : ∃ wd0, wd0 = wr.drew := ⟨_, rfl⟩
            have HQd : Hid (QV W wd0 vS vT PS PT) := by rw [hwd0]; exact HQa.out
            refine region_E 14 (fun w' => (w'.cell? ⟨W.heap.size, 0, none⟩ = some vS ∧ w'.cell? ⟨w.heap.size, 0, none⟩ = some (.slice (some ⟨bS, oS, none⟩) n cS)) ∧ w'.cell? ⟨bS, oS + i, none⟩ = some (.int .i64 (gi : Nat)) ∧ w'.cell? ⟨w.heap.size + 1 + 1, gi, none⟩ = some (.int .i64 (ng : Nat)) ∧ w'.cell? ⟨bL, oL + q, none⟩ = some (.int .i64 (i : Nat))) (by kernel_rfl) ?_
            rw [← hwd0]
            clear hwd0
            have hHeld := HHd0.out HQd.out
            refine take_E (n := 14) (i := 0) (v := ?va_0) rfl (by kernel_rfl) (fun _ _ _ h => h) ?hya_0 (by rfl) hHeld ?resta_0
            case hya_0 => (intro w9 hSw; (try dsimp only at hSw); go_simp <;> with_reducible rfl)
            (try simp only [List.getElem_toArray, List.getElem_cons_zero, List.getElem_cons_succ, Act.put, List.setIfInBounds_toArray, List.set_cons_zero, List.set_cons_succ])
            refine take_E (n := 14) (i := 1) (v := ?va_1) rfl (by kernel_rfl) (fun _ _ _ h => h) ?hya_1 (by rfl) hHeld ?resta_1
            case hya_1 => (intro w9 hSw; (try dsimp only at hSw); go_simp <;> with_reducible rfl)
            (try simp only [List.getElem_toArray, List.getElem_cons_zero, List.getElem_cons_succ, Act.put, List.setIfInBounds_toArray, List.set_cons_zero, List.set_cons_succ])
            refine take_E (n := 14) (i := 2) (v := ?va_2) rfl (by kernel_rfl) (fun _ _ _ h => h) ?hya_2 (by rfl) hHeld ?resta_2
            case hya_2 => (intro w9 hSw; (try dsimp only at hSw); go_simp <;> with_reducible rfl)
            (try simp only [List.getElem_toArray, List.getElem_cons_zero, List.getElem_cons_succ, Act.put, List.setIfInBounds_toArray, List.set_cons_zero, List.set_cons_succ])
            refine take_E (n := 14) (i := 3) (v := ?va_3) rfl (by kernel_rfl) (fun _ _ _ h => h) ?hya_3 (by rfl) hHeld ?resta_3
            case hya_3 => (intro w9 hSw; (try dsimp only at hSw); go_simp <;> with_reducible rfl)
            (try simp only [List.getElem_toArray, List.getElem_cons_zero, List.getElem_cons_succ, Act.put, List.setIfInBounds_toArray, List.set_cons_zero, List.set_cons_succ])
            refine take_E (n := 14) (i := 4) (v := ?va_4) rfl (by kernel_rfl) (fun _ _ _ h => h) ?hya_4 (by rfl) hHeld ?resta_4
            case hya_4 => (intro w9 hSw; (try dsimp only at hSw); go_simp <;> with_reducible rfl)
            (try simp only [List.getElem_toArray, List.getElem_cons_zero, List.getElem_cons_succ, Act.put, List.setIfInBounds_toArray, List.set_cons_zero, List.set_cons_succ])
            refine take_E (n := 14) (i := 5) (v := ?va_5) rfl (by kernel_rfl) (fun _ _ _ h => h) ?hya_5 (by rfl) hHeld ?resta_5
            case hya_5 => (intro w9 hSw; (try dsimp only at hSw); go_simp <;> with_reducible rfl)
            (try simp only [List.getElem_toArray, List.getElem_cons_zero, List.getElem_cons_succ, Act.put, List.setIfInBounds_toArray, List.set_cons_zero, List.set_cons_succ])
            refine take_E (n := 14) (i := 6) (v := ?va_6) rfl (by kernel_rfl) (fun _ _ _ h => h) ?hya_6 (by rfl) hHeld ?resta_6
            case hya_6 => (intro w9 hSw; (try dsimp only at hSw); go_simp <;> with_reducible rfl)
            (try simp only [List.getElem_toArray, List.getElem_cons_zero, List.getElem_cons_succ, Act.put, List.setIfInBounds_toArray, List.set_cons_zero, List.set_cons_succ])
            refine take_E (n := 14) (i := 7) (v := ?va_7) rfl (by kernel_rfl) (fun _ _ _ h => h) ?hya_7 (by rfl) hHeld ?resta_7
            case hya_7 => (intro w9 hSw; (try dsimp only at hSw); go_simp <;> with_reducible rfl)
            (try simp only [List.getElem_toArray, List.getElem_cons_zero, List.getElem_cons_succ, Act.put, List.setIfInBounds_toArray, List.set_cons_zero, List.set_cons_succ])
            refine take_E (n := 14) (i := 8) (v := ?va_8) rfl (by kernel_rfl) (fun _ _ _ h => h) ?hya_8 (by rfl) hHeld ?resta_8
            case hya_8 => (intro w9 hSw; (try dsimp only at hSw); go_simp <;> with_reducible rfl)
            (try simp only [List.getElem_toArray, List.getElem_cons_zero, List.getElem_cons_succ, Act.put, List.setIfInBounds_toArray, List.set_cons_zero, List.set_cons_succ])
            refine take_E (n := 14) (i := 9) (v := ?va_9) rfl (by kernel_rfl) (fun _ _ _ h => h) ?hya_9 (by rfl) hHeld ?resta_9
            case hya_9 => (intro w9 hSw; (try dsimp only at hSw); go_simp <;> with_reducible rfl)
            (try simp only [List.getElem_toArray, List.getElem_cons_zero, List.getElem_cons_succ, Act.put, List.setIfInBounds_toArray, List.set_cons_zero, List.set_cons_succ])
            refine take_E (n := 14) (i := 10) (v := ?va_10) rfl (by kernel_rfl) (fun _ _ _ h => h) ?hya_10 (by rfl) hHeld ?resta_10
            case hya_10 => (intro w9 hSw; (try dsimp only at hSw); go_simp <;> with_reducible rfl)
            (try simp only [List.getElem_toArray, List.getElem_cons_zero, List.getElem_cons_succ, Act.put, List.setIfInBounds_toArray, List.set_cons_zero, List.set_cons_succ])
            refine take_E (n := 14) (i := 11) (v := ?va_11) rfl (by kernel_rfl) (fun _ _ _ h => h) ?hya_11 (by rfl) hHeld ?resta_11
            case hya_11 => (intro w9 hSw; (try dsimp only at hSw); go_simp <;> with_reducible rfl)
            (try simp only [List.getElem_toArray, List.getElem_cons_zero, List.getElem_cons_succ, Act.put, List.setIfInBounds_toArray, List.set_cons_zero, List.set_cons_succ])
            refine take_E (n := 14) (i := 12) (v := ?va_12) rfl (by kernel_rfl) (fun _ _ _ h => h) ?hya_12 (by rfl) hHeld ?resta_12
            case hya_12 => (intro w9 hSw; (try dsimp only at hSw); go_simp <;> with_reducible rfl)
            (try simp only [List.getElem_toArray, List.getElem_cons_zero, List.getElem_cons_succ, Act.put, List.setIfInBounds_toArray, List.set_cons_zero, List.set_cons_succ])
            refine one_E (n := 14) (i := 13) (by kernel_rfl) rfl (fun K hK => ?_)
            go_simp
            refine hK.out _ _ (fun _ => HHd0.out (HQd.out.alloc _)) (fun hHeld13 => ?_)
            clear hK K
            (try simp only [List.getElem_toArray, List.getElem_cons_zero, List.getElem_cons_succ, Act.put, List.setIfInBounds_toArray, List.set_cons_zero, List.set_cons_succ])
            refine one_E (n := 14) (i := 14) (by kernel_rfl) rfl (fun K hK => ?_)
            refine step_append_lies _ (by rfl) _ _ _ (by rfl) (W.heap.size + 1) 3 i0 _ 1 8 Try.underlying22 hi0 z0 z1 z2 rfl (by omega) vS PS.length (zs (iz PS)) (by rfl) (HQd.out.alloc _).rS ⟨wd0.heap.size, 0, none⟩ 1 1 [.int .i64 (ng : Nat)] (by rfl) (by rfl) (World.news_of_block (cs := #[.int .i64 (ng : Nat)]) (t := 3) (fr := (0, 0)) (heap_alloc_new wd0 _)) (by simp [Value.oneCell']) (by omega) (by unfold maxLen; omega) (by omega) (by have := lt_of_block HQd.out.p; simp; omega) (wd0.heap.size + 1) (by simp) ?_
            intro gg cap' p2 hown2 hgrow hat hlt3
            obtain ⟨hpb, hq9⟩ := (HQd.out.alloc _).pushS hown2 hgrow (by simpa using hat)
            have HQb := Lib.hid hq9
            have fz := (two_of_block hpb).2
            have qz := (two_of_block hpb).1
            clear hown2 hgrow hat hq9
            refine hK.out _ _ (fun h => absurd h (by decide)) (fun hHeld14 => ?_)
            clear hK K
            (try simp only [List.getElem_toArray, List.getElem_cons_zero, List.getElem_cons_succ, Act.put, List.setIfInBounds_toArray, List.set_cons_zero, List.set_cons_succ])
            refine one_E (n := 14) (i := 15) (by kernel_rfl) rfl (fun K hK => ?_)
            go_simp
            refine hK.out _ _ (fun h => absurd h (by decide)) (fun hHeld15 => ?_)
            clear hK K
            (try simp only [List.getElem_toArray, List.getElem_cons_zero, List.getElem_cons_succ, Act.put, List.setIfInBounds_toArray, List.set_cons_zero, List.set_cons_succ])
            refine one_E (n := 14) (i := 16) (by kernel_rfl) rfl (fun K hK => ?_)
            go_simp
            refine hK.out _ _ (fun h => absurd h (by decide)) (fun hHeld16 => ?_)
            clear hK K
            (try simp only [List.getElem_toArray, List.getElem_cons_zero, List.getElem_cons_succ, Act.put, List.setIfInBounds_toArray, List.set_cons_zero, List.set_cons_succ])
            refine done_E (by kernel_rfl) ?_ _
            go_wp2_with fail
            go_meet
            exact ⟨rfl, _, HQb⟩
          case rest =>
            obtain ⟨rfl, vS', HQ1⟩ := hcut
            clear HQa HQ
            go_wp2
            have HQe := Lib.hid HQ1.drew
            obtain ⟨wd1, hwd1⟩ : ∃ wd1, wd1 = wc.drew := ⟨_, rfl⟩
            have HQf : Hid (QV W wd1 vS' vT (PS ++ [ng]) PT) := by rw [hwd1]; exact HQe.out
            refine region_E 14 (fun w' => (w'.cell? ⟨W.heap.size, 1, none⟩ = some vT ∧ w'.cell? ⟨w.heap.size, 1, none⟩ = some (.slice (some ⟨bT, oT, none⟩) n cT)) ∧ w'.cell? ⟨bT, oT + i, none⟩ = some (.int .i64 (fi : Nat)) ∧ w'.cell? ⟨w.heap.size + 1 + 1, fi, none⟩ = some (.int .i64 (nf : Nat)) ∧ w'.cell? ⟨bL, oL + q, none⟩ = some (.int .i64 (i : Nat))) (by kernel_rfl) ?_
            rw [← hwd1]
            clear hwd1
            have hHeld := HHd1.out HQf.out
            refine take_E (n := 14) (i := 0) (v := ?vb_0) rfl (by kernel_rfl) (fun _ _ _ h => h) ?hyb_0 (by rfl) hHeld ?restb_0
            case hyb_0 => (intro w9 hSw; (try dsimp only at hSw); go_simp <;> with_reducible rfl)
            (try simp only [List.getElem_toArray, List.getElem_cons_zero, List.getElem_cons_succ, Act.put, List.setIfInBounds_toArray, List.set_cons_zero, List.set_cons_succ])
            refine take_E (n := 14) (i := 1) (v := ?vb_1) rfl (by kernel_rfl) (fun _ _ _ h => h) ?hyb_1 (by rfl) hHeld ?restb_1
            case hyb_1 => (intro w9 hSw; (try dsimp only at hSw); go_simp <;> with_reducible rfl)
            (try simp only [List.getElem_toArray, List.getElem_cons_zero, List.getElem_cons_succ, Act.put, List.setIfInBounds_toArray, List.set_cons_zero, List.set_cons_succ])
            refine take_E (n := 14) (i := 2) (v := ?vb_2) rfl (by kernel_rfl) (fun _ _ _ h => h) ?hyb_2 (by rfl) hHeld ?restb_2
            case hyb_2 => (intro w9 hSw; (try dsimp only at hSw); go_simp <;> with_reducible rfl)
            (try simp only [List.getElem_toArray, List.getElem_cons_zero, List.getElem_cons_succ, Act.put, List.setIfInBounds_toArray, List.set_cons_zero, List.set_cons_succ])
            refine take_E (n := 14) (i := 3) (v := ?vb_3) rfl (by kernel_rfl) (fun _ _ _ h => h) ?hyb_3 (by rfl) hHeld ?restb_3
            case hyb_3 => (intro w9 hSw; (try dsimp only at hSw); go_simp <;> with_reducible rfl)
            (try simp only [List.getElem_toArray, List.getElem_cons_zero, List.getElem_cons_succ, Act.put, List.setIfInBounds_toArray, List.set_cons_zero, List.set_cons_succ])
            refine take_E (n := 14) (i := 4) (v := ?vb_4) rfl (by kernel_rfl) (fun _ _ _ h => h) ?hyb_4 (by rfl) hHeld ?restb_4
            case hyb_4 => (intro w9 hSw; (try dsimp only at hSw); go_simp <;> with_reducible rfl)
            (try simp only [List.getElem_toArray, List.getElem_cons_zero, List.getElem_cons_succ, Act.put, List.setIfInBounds_toArray, List.set_cons_zero, List.set_cons_succ])
            refine take_E (n := 14) (i := 5) (v := ?vb_5) rfl (by kernel_rfl) (fun _ _ _ h => h) ?hyb_5 (by rfl) hHeld ?restb_5
            case hyb_5 => (intro w9 hSw; (try dsimp only at hSw); go_simp <;> with_reducible rfl)
            (try simp only [List.getElem_toArray, List.getElem_cons_zero, List.getElem_cons_succ, Act.put, List.setIfInBounds_toArray, List.set_cons_zero, List.set_cons_succ])
            refine take_E (n := 14) (i := 6) (v := ?vb_6) rfl (by kernel_rfl) (fun _ _ _ h => h) ?hyb_6 (by rfl) hHeld ?restb_6
            case hyb_6 => (intro w9 hSw; (try dsimp only at hSw); go_simp <;> with_reducible rfl)
            (try simp only [List.getElem_toArray, List.getElem_cons_zero, List.getElem_cons_succ, Act.put, List.setIfInBounds_toArray, List.set_cons_zero, List.set_cons_succ])
            refine take_E (n := 14) (i := 7) (v := ?vb_7) rfl (by kernel_rfl) (fun _ _ _ h => h) ?hyb_7 (by rfl) hHeld ?restb_7
            case hyb_7 => (intro w9 hSw; (try dsimp only at hSw); go_simp <;> with_reducible rfl)
            (try simp only [List.getElem_toArray, List.getElem_cons_zero, List.getElem_cons_succ, Act.put, List.setIfInBounds_toArray, List.set_cons_zero, List.set_cons_succ])
            refine take_E (n := 14) (i := 8) (v := ?vb_8) rfl (by kernel_rfl) (fun _ _ _ h => h) ?hyb_8 (by rfl) hHeld ?restb_8
            case hyb_8 => (intro w9 hSw; (try dsimp only at hSw); go_simp <;> with_reducible rfl)
            (try simp only [List.getElem_toArray, List.getElem_cons_zero, List.getElem_cons_succ, Act.put, List.setIfInBounds_toArray, List.set_cons_zero, List.set_cons_succ])
            refine take_E (n := 14) (i := 9) (v := ?vb_9) rfl (by kernel_rfl) (fun _ _ _ h => h) ?hyb_9 (by rfl) hHeld ?restb_9
            case hyb_9 => (intro w9 hSw; (try dsimp only at hSw); go_simp <;> with_reducible rfl)
            (try simp only [List.getElem_toArray, List.getElem_cons_zero, List.getElem_cons_succ, Act.put, List.setIfInBounds_toArray, List.set_cons_zero, List.set_cons_succ])
            refine take_E (n := 14) (i := 10) (v := ?vb_10) rfl (by kernel_rfl) (fun _ _ _ h => h) ?hyb_10 (by rfl) hHeld ?restb_10
            case hyb_10 => (intro w9 hSw; (try dsimp only at hSw); go_simp <;> with_reducible rfl)
            (try simp only [List.getElem_toArray, List.getElem_cons_zero, List.getElem_cons_succ, Act.put, List.setIfInBounds_toArray, List.set_cons_zero, List.set_cons_succ])
            refine take_E (n := 14) (i := 11) (v := ?vb_11) rfl (by kernel_rfl) (fun _ _ _ h => h) ?hyb_11 (by rfl) hHeld ?restb_11
            case hyb_11 => (intro w9 hSw; (try dsimp only at hSw); go_simp <;> with_reducible rfl)
            (try simp only [List.getElem_toArray, List.getElem_cons_zero, List.getElem_cons_succ, Act.put, List.setIfInBounds_toArray, List.set_cons_zero, List.set_cons_succ])
            refine take_E (n := 14) (i := 12) (v := ?vb_12) rfl (by kernel_rfl) (fun _ _ _ h => h) ?hyb_12 (by rfl) hHeld ?restb_12
            case hyb_12 => (intro w9 hSw; (try dsimp only at hSw); go_simp <;> with_reducible rfl)
            (try simp only [List.getElem_toArray, List.getElem_cons_zero, List.getElem_cons_succ, Act.put, List.setIfInBounds_toArray, List.set_cons_zero, List.set_cons_succ])
            refine one_E (n := 14) (i := 13) (by kernel_rfl) rfl (fun K hK => ?_)
            go_simp
            refine hK.out _ _ (fun _ => HHd1.out (HQf.out.alloc _)) (fun hHeld13 => ?_)
            clear hK K
            (try simp only [List.getElem_toArray, List.getElem_cons_zero, List.getElem_cons_succ, Act.put, List.setIfInBounds_toArray, List.set_cons_zero, List.set_cons_succ])
            refine one_E (n := 14) (i := 14) (by kernel_rfl) rfl (fun K hK => ?_)
            refine step_append_lies _ (by rfl) _ _ _ (by rfl) (W.heap.size + 1) 3 i0 _ 1 8 Try.underlying22 hi0 z0 z1 z2 rfl (by omega) vT PT.length (zs (iz PT)) (by rfl) (HQf.out.alloc _).rT ⟨wd1.heap.size, 0, none⟩ 1 1 [.int .i64 (nf : Nat)] (by rfl) (by rfl) (World.news_of_block (cs := #[.int .i64 (nf : Nat)]) (t := 3) (fr := (0, 0)) (heap_alloc_new wd1 _)) (by simp [Value.oneCell']) (by omega) (by unfold maxLen; omega) (by omega) (by have := lt_of_block HQf.out.p; simp; omega) (wd1.heap.size + 1) (by simp) ?_
            intro gg cap' p2 hown2 hgrow hat hlt3
            obtain ⟨hpb, hq9⟩ := (HQf.out.alloc _).pushT hown2 hgrow (by simpa using hat)
            have HQc := Lib.hid hq9
            have fz := (two_of_block hpb).2
            have qz := (two_of_block hpb).1
            clear hown2 hgrow hat hq9
            refine hK.out _ _ (fun h => absurd h (by decide)) (fun hHeld14 => ?_)
            clear hK K
            (try simp only [List.getElem_toArray, List.getElem_cons_zero, List.getElem_cons_succ, Act.put, List.setIfInBounds_toArray, List.set_cons_zero, List.set_cons_succ])
            refine one_E (n := 14) (i := 15) (by kernel_rfl) rfl (fun K hK => ?_)
            go_simp
            refine hK.out _ _ (fun h => absurd h (by decide)) (fun hHeld15 => ?_)
            clear hK K
            (try simp only [List.getElem_toArray, List.getElem_cons_zero, List.getElem_cons_succ, Act.put, List.setIfInBounds_toArray, List.set_cons_zero, List.set_cons_succ])
            refine one_E (n := 14) (i := 16) (by kernel_rfl) rfl (fun K hK => ?_)
            go_simp
            refine hK.out _ _ (fun h => absurd h (by decide)) (fun hHeld16 => ?_)
            clear hK K
            (try simp only [List.getElem_toArray, List.getElem_cons_zero, List.getElem_cons_succ, Act.put, List.setIfInBounds_toArray, List.set_cons_zero, List.set_cons_succ])
            refine done_E (by kernel_rfl) ?_ _
            go_wp2
            go_roundw
            case rel => exact ⟨q + 1, _, _, by go_num, hql, by rw [HTk1.out, HTk2.out]; exact HQc.out⟩
            case measure => simp [intOf]; omega
        · obtain rfl : n = q := by omega
          have hq2 : ¬ (n : Int) < (n : Int) := by omega
          obtain ⟨A1, c1, rfl⟩ := own_len HQ.out.rS
          obtain ⟨A2, c2, rfl⟩ := own_len HQ.out.rT
          have HSr := Lib.hid HQ.out.rS
          have HTr := Lib.hid HQ.out.rT
          have HPx := Lib.hid HQ.out.p
          rw [List.length_map, List.length_range] at HSr HTr HPx
          rw [List.length_map, List.length_range] at HPx
          have HRx : Hid (wr.heap[w.heap.size + 1]? = some (.cells #[.slice none 0 0, .slice none 0 0] 24 (0, 0))) := (HQ.out.bel.block _ (lt_of_block HV.out.r)).trans HV.out.r
          have HBx := Lib.hid (HV.out.bel.trans (HQ.out.bel.mono hbz))
          have hlr := lt_of_block HV.out.r
          obtain ⟨⟨p1, p2⟩, pf⟩ := two_of_block HPx.out
          obtain ⟨⟨r1, r2⟩, rf⟩ := two_of_block HRx.out
          have hzz := lt_of_block HRx.out
          clear HQ
          go_wp2
          have hrl := two_set1 (two_set0 HRx.out (.slice A1 n c1)) (.slice A2 n c2)
          obtain ⟨⟨s1, s2⟩, _⟩ := two_of_block hrl
          refine bodyPost_ret (v := .agg #[.slice A1 n c1, .slice A2 n c2]) ?_ rfl ⟨A1, c1, A2, c2, rfl, ?_, ?_, (HBx.out.setCell (by show _ ≤ w.heap.size + 1; omega) _).setCell (by show _ ≤ w.heap.size + 1; omega) _⟩
          · simp [results, Try.results58, go_sem, s1, s2]
          · rw [HNe9.out]; exact own_base (B := W.heap.size + 1) (by omega) (own_set (own_set HSr.out (by omega) _) (by omega) _)
          · rw [HNe9.out]; exact own_base (B := W.heap.size + 1) (by omega) (own_set (own_set HTr.out (by omega) _) (by omega) _)
end Go.Proofs.Ytmikhkolbkdnpaa
