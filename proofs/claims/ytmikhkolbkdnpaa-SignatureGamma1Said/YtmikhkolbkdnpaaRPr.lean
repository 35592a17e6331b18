/- The reference's Minus. The reference's Line and Number. The reference's Projective: the same lists as the code's. -/
import Derived.Test.YtmikhkolbkdnpaaAcM
import Derived.Test.YtmikhkolbkdnpaaProL
import Derived.Deep.QuietTactic
import Derived.Deep.DeepCutAuto
import Derived.Deep.CutBlock
import Derived.Laws.MakeOwn
import Derived.Deep.RegionHeld3
import Derived.IntWalk
import Derived.Deep.AppendLies
namespace Go.Proofs.Ytmikhkolbkdnpaa
open Go.RowKit
set_option linter.unusedVariables false
set_option linter.unusedSimpArgs false

set_option maxHeartbeats 3200000 in
set_option maxRecDepth 1000000 in
theorem rminusB_any {g : Nat → Nat} {n bS oS cS : Nat} {vT : Value} (w : World) (h : RdN w w.heap.size bS oS n g) (hg : Prm g n) (h0 : 0 < n) (b : Bool) (hb : b = decide (g (g 0) = 0)) :
    Calls Try.prog 31 #[.agg #[.slice (some ⟨bS, oS, none⟩) n cS, vT]] w fun e w' => e = .returned (.bool b) ∧ Below w.heap.size w w' := by
  have T0 : Hid ((w.alloc (.cells #[.slice (some ⟨bS, oS, none⟩) n cS, vT] 24)).heap[w.heap.size]? = some (.cells #[.slice (some ⟨bS, oS, none⟩) n cS, vT] 24 (0, 0))) := heap_alloc_new w _
  have HB0 : Hid (Below w.heap.size w (w.alloc (.cells #[.slice (some ⟨bS, oS, none⟩) n cS, vT] 24))) := below1 w _
  have h1 := hg.lt 0 h0
  have hr := h.below HB0.out
  obtain ⟨W1, hW1⟩ : ∃ W1, W1 = w.alloc (.cells #[.slice (some ⟨bS, oS, none⟩) n cS, vT] 24) := ⟨_, rfl⟩
  go_enter Try.func31, Try.ntmps31
  go_wp2
  rw [← hW1] at T0 HB0 hr ⊢
  clear hW1
  have c0 : ∀ N, (W1.drewN N).cell? ⟨bS, oS + 0, none⟩ = some (.int .i64 (g 0 : Nat)) := fun N => hr.2 0 h0
  have c1 : ∀ N, (W1.drewN N).cell? ⟨bS, oS + g 0, none⟩ = some (.int .i64 (g (g 0) : Nat)) := fun N => hr.2 _ h1
  have u1 := fun N => (show (W1.drewN N).cell? ⟨w.heap.size, 0, none⟩ = _ from (two_of_block T0.out).1.1)
  have HBb : Hid (b = decide (g (g 0) = 0)) := hb
  clear hb hr h hg
  generalize g (g 0) = y at *
  generalize g 0 = x at *
  have i0 : (0 : Int) < (n : Int) := by omega
  have i1 : (x : Int) < (n : Int) := by omega
  have c0' : ∀ N, (W1.drewN N).cell? ⟨bS, oS, none⟩ = some (.int .i64 (x : Nat)) := fun N => c0 N
  by_cases hy : y = 0
  · subst hy
    have hbt : b = true := HBb.out.trans (by simp)
    subst hbt
    go_quiet (fail)
    go_wp2
    go_ret
    exact ⟨rfl, below_drewN HB0.out _⟩
  · have hbf : b = false := HBb.out.trans (by simpa using hy)
    subst hbf
    have hyb : ((y : Int) == 0) = false := by simp; omega
    go_quiet (fail)
    go_wp2
    refine bodyPost_ret (v := .bool false) ?_ rfl ⟨rfl, below_drewN HB0.out _⟩
    simp [results, Try.results31, go_sem]
end Go.Proofs.Ytmikhkolbkdnpaa
namespace Go.Proofs.Ytmikhkolbkdnpaa
open Go.RowKit
set_option linter.unusedVariables false
set_option linter.unusedSimpArgs false

/-- The first loop's world: a row of numbers at rb, the least points, the boxes. -/
structure NW (w wr : World) (rb : Nat) (xs ys : Array Value) (n : Nat) (N : Nat → Nat) (v : Value) (L : List Nat) : Prop where
  row : wr.rowIs rb 3 n (fun j => .int .i64 (N j : Nat))
  own : wr.ownsRow w.heap.size 3 1 v L.length (zs (iz L))
  x : wr.heap[w.heap.size]? = some (.cells xs 24 (0, 0))
  r : wr.heap[w.heap.size + 1]? = some (.cells ys 24 (0, 0))
  bel : Below w.heap.size w wr
  ne : some rb ≠ v.ownBlock
  ge : w.heap.size + 1 < rb
section
variable {w wr w' : World} {rb : Nat} {xs ys : Array Value} {n : Nat} {N : Nat → Nat} {v v' : Value} {L : List Nat}
theorem NW.drewN (h : NW w wr rb xs ys n N v L) (m : Nat) : NW w (wr.drewN m) rb xs ys n N v L := ⟨h.row.of_block rfl, own_low h.own fun _ _ => rfl, h.x, h.r, below_drewN h.bel m, h.ne, h.ge⟩
theorem NW.set (h : NW w wr rb xs ys n N v L) (x a : Nat) : NW w (wr.setCell ⟨rb, x, none⟩ (.int .i64 (a : Nat))) rb xs ys n (fun j => if j = x then a else N j) v L := by
  have hge := h.ge
  refine ⟨World.rowIs.congr (h.row.set x _) fun j _ => (by by_cases e : j = x <;> simp [e]), ?_, set_ne h.x (by omega) _, set_ne h.r (by omega) _, h.bel.setCell (by show _ ≤ rb; omega) _, h.ne, h.ge⟩
  exact h.own.kept (row := some rb) ⟨rfl, rfl, rfl, by simp, fun k _ hk => Below.heap_setCell wr ⟨rb, x, none⟩ _ k (fun e => hk (by rw [e]))⟩ (.inr fun e => h.ne e.symm)
theorem NW.push (h : NW w wr rb xs ys n N v L) {p : Nat} {o : Obj} (hown : w'.ownsRow w.heap.size 3 1 v' (L.length + 1) (zs (iz L) ++ [.int .i64 (p : Nat)])) (hg : (wr.alloc o).grownBy w' v.ownBlock) (hat : v'.ownBlock = v.ownBlock ∨ v'.ownBlock = some (wr.alloc o).heap.size) : NW w w' rb xs ys n N v' (L ++ [p]) := by
  have hlt := h.row.lt
  refine ⟨h.row.of_block ?_, by rw [List.length_append, iz_append, zs_append]; exact hown, ?_, ?_, ?_, ?_, h.ge⟩
  · rw [hg.block _ (by simp; omega) h.ne, Below.heap_alloc _ _ _ hlt]
  · exact (hg.block _ (by have := lt_of_block h.x; simp; omega) (row_ne2 h.x h.own (by decide))).trans (block_alloc h.x o)
  · exact (hg.block _ (by have := lt_of_block h.r; simp; omega) (row_ne2 h.r h.own (by decide))).trans (block_alloc h.r o)
  · exact (h.bel.alloc h.bel.size o).grown hg (by have := h.bel.size; simp; omega) fun j hj => (h.own.lt j hj).1
  · rcases hat with e | e
    · rw [e]; exact h.ne
    · rw [e]; simp; omega
end
/-- The numbers behind the places below k of a list. -/
def plN (l : Nat → Nat) : Nat → Nat → Nat
  | 0 => fun _ => 0
  | k + 1 => fun j => if j = l k then k else plN l k j
theorem NW.of_nv {w wr : World} {xs ys : Array Value} {n : Nat} {N : Nat → Nat} {v : Value} {L : List Nat} (h : NV w wr xs ys n N v L) : NW w wr (w.heap.size + 1 + 1) xs ys n N v L := ⟨h.row, h.own, h.x, h.r, h.bel, h.ne, by omega⟩
theorem lineO_start (w : World) (B : Nat) : w.ownsRow B 3 1 (.slice none 0 0) 0 (zs (iz (List.range 0))) := World.ownsRow_nil _ _ _ _
set_option maxHeartbeats 1600000 in
set_option maxRecDepth 1000000 in
theorem rline_any {n : Nat} (w : World) (hn : n ≤ 1152) :
    Calls Try.prog 59 #[.int .i64 (n : Nat)] w fun e w' => ∃ A c, e = .returned (.slice A n c) ∧ w'.ownsRow w.heap.size 3 1 (.slice A n c) n (zs (iz (List.range n))) ∧ Below w.heap.size w w' := by
  obtain ⟨i0, hi0, z0, z1, z2⟩ := info_parts Try.infoInt
  have H0 := Lib.hid (World.ownsRow_nil w w.heap.size 3 1)
  go_enter Try.func59, Try.ntmps59
  go_wp2
  go_loopw [3, 4] (fun V I wr => ∃ (k : Nat) (A : Option Addr) (c : Nat), V = .slice A k c ∧ I = .int .i64 k ∧ k ≤ n ∧ Hid (wr.ownsRow w.heap.size 3 1 (.slice A k c) k (zs (iz (List.range k)))) ∧ Hid (Below w.heap.size w wr)) (fun _ I _ => n - (intOf I).toNat)
  case atStart => exact ⟨0, none, 0, rfl, rfl, Nat.zero_le _, H0.out, Below.refl _ _⟩
  case round =>
    clear H0
    obtain ⟨k, A, c, rfl, rfl, hk, HO, HB⟩ := hrel
    by_cases hlt : k < n
    · have hki : (k : Int) < (n : Int) := by omega
      have hsz := HB.out.size
      have HR : Hid (zs (iz (List.range (k + 1))) = zs (iz (List.range k)) ++ [.int .i64 (k : Nat)]) := by show _ = _; rw [List.range_succ, iz_append, zs_append]; rfl
      go_wp2_with (first
        | (at_builtin; (refine wpList_append_own_at _ rfl _ _ 22 rfl w.heap.size 3 i0 (.int .i64 0) 1 8 Try.underlying22 hi0 z0 z1 z2 rfl (by decide) _ _ _ rfl (HO.out.alloc _) ⟨wr.heap.size, 0, none⟩ 1 1 [.int .i64 (k : Nat)] rfl rfl (cell_one_new' _ _ _) (fun x hx => by simp at hx; rw [hx]; rfl) (by unfold maxLen; omega) (by omega) (by simp; omega) ?_); intro v' w4 hown4 hg4 hnil4 hat4; obtain ⟨A2, c2, rfl⟩ := own_len hown4; have HN := Lib.hid hown4; have HB4 : Hid (Below w.heap.size w w4) := (HB.out.alloc hsz _).grown hg4 (by simp; omega) fun j hj => (HO.out.lt j hj).1; clear hown4 hg4 hnil4 hat4)
        | fail)
      go_roundw
      case rel => exact ⟨k + 1, A2, c2, rfl, by go_num, hlt, by rw [HR.out]; exact HN.out, HB4.out⟩
      case measure => simp [intOf]; omega
    · obtain rfl : k = n := by omega
      have hk2 : ¬ (k : Int) < (k : Int) := by omega
      go_wp2
      go_ret
      exact ⟨A, c, rfl, HO.out, HB.out⟩
set_option maxHeartbeats 6400000 in
set_option maxRecDepth 1000000 in
theorem rnumber_any {g f l : Nat → Nat} {n bS oS bT oT bL oL cS cT cL : Nat} (w : World) (hs : RdN w w.heap.size bS oS n g) (ht : RdN w w.heap.size bT oT n f) (hl : RdN w w.heap.size bL oL n l) (hg : Prm g n) (hf : Prm f n) (hlp : ∀ i, i < n → l i < n) (hn : n ≤ 1152) :
    Calls Try.prog 58 #[.agg #[.slice (some ⟨bS, oS, none⟩) n cS, .slice (some ⟨bT, oT, none⟩) n cT], .slice (some ⟨bL, oL, none⟩) n cL] w fun e w' => ∃ A c A' c', e = .returned (.agg #[.slice A n c, .slice A' n c']) ∧
      w'.ownsRow w.heap.size 3 1 (.slice A n c) n (zs (iz ((List.range n).map fun i => plN l n (g (l i))))) ∧
      w'.ownsRow w.heap.size 3 1 (.slice A' n c') n (zs (iz ((List.range n).map fun i => plN l n (f (l i))))) ∧ Below w.heap.size w w' := by
  obtain ⟨i0, hi0, z0, z1, z2⟩ := info_parts Try.infoInt
  have hmk := fun W => mk_int2 n W hn
  have HG := Lib.hid hg
  have HF := Lib.hid hf
  have HS := Lib.hid hs
  have HT := Lib.hid ht
  have HL := Lib.hid hl
  have HLm := Lib.hid hlp
  have HV0 := Lib.hid (NW.of_nv (nv_start w #[.slice (some ⟨bS, oS, none⟩) n cS, .slice (some ⟨bT, oT, none⟩) n cT] #[.slice none 0 0, .slice none 0 0] n))
  clear hs ht hg hf hl hlp
  go_enter Try.func58, Try.ntmps58
  go_wp2
  obtain ⟨W0, hW0⟩ : ∃ W0, W0 = ((w.alloc (.cells #[.slice (some ⟨bS, oS, none⟩) n cS, .slice (some ⟨bT, oT, none⟩) n cT] 24)).alloc (.cells #[.slice none 0 0, .slice none 0 0] 24)).alloc (.cells (madeCells #[.int .i64 0] n) 3) := ⟨_, rfl⟩
  rw [← hW0] at HV0 ⊢
  clear hW0 hmk
  go_loopw [6] (fun I wr => ∃ (k : Nat), I = .int .i64 k ∧ k ≤ n ∧ Hid (NW w wr (w.heap.size + 1 + 1) #[.slice (some ⟨bS, oS, none⟩) n cS, .slice (some ⟨bT, oT, none⟩) n cT] #[.slice none 0 0, .slice none 0 0] n (plN l k) (.slice none 0 0) [])) (fun I _ => n - (intOf I).toNat)
  case atStart => exact ⟨0, rfl, Nat.zero_le _, HV0.out⟩
  case round =>
    clear HV0
    obtain ⟨k, rfl, hk, HV⟩ := hrel
    by_cases hlt : k < n
    · have hki : (k : Int) < (n : Int) := by omega
      have h1 := HLm.out k hlt
      have c1 := (HV.out.bel.cell (p := ⟨bL, oL + k, none⟩) HL.out.1).trans (HL.out.2 k hlt)
      have H2 : Hid (NW w (wr.setCell ⟨w.heap.size + 1 + 1, l k, none⟩ (.int .i64 (k : Nat))) (w.heap.size + 1 + 1) #[.slice (some ⟨bS, oS, none⟩) n cS, .slice (some ⟨bT, oT, none⟩) n cT] #[.slice none 0 0, .slice none 0 0] n (plN l (k + 1)) (.slice none 0 0) []) := HV.out.set (l k) k
      have n1 := HV.out.row.cell (i := l k) h1
      have nf := HV.out.row.frozen (l k)
      generalize l k = x at *
      have hxi : (x : Int) < (n : Int) := by omega
      go_wp2
      go_roundw
      case rel => exact ⟨k + 1, by go_num, hlt, H2.out⟩
      case measure => simp [intOf]; omega
    · obtain rfl : k = n := by omega
      have hk2 : ¬ (k : Int) < (k : Int) := by omega
      generalize hNe9 : plN l k = N at *
      have HNe9 := Lib.hid hNe9
      clear hNe9
      obtain ⟨n, hnk⟩ : ∃ n, n = k := ⟨_, rfl⟩
      subst hnk
      obtain ⟨W, hW⟩ : ∃ W, W = wr := ⟨_, rfl⟩
      rw [← hW] at HV ⊢
      clear hW
      have HQ0 := Lib.hid (qv_start W)
      have hbz := HV.out.bel.size
      go_wp2
      go_loopw [8] (fun I wr => ∃ (q : Nat) (vS vT : Value), I = .int .i64 q ∧ q ≤ n ∧ Hid (QV W wr vS vT (((List.range q)).map fun i => N (g (l i))) (((List.range q)).map fun i => N (f (l i))))) (fun I _ => n - (intOf I).toNat)
      case atStart => exact ⟨0, _, _, rfl, Nat.zero_le _, HQ0.out⟩
      case round =>
        clear HQ0
        obtain ⟨q, vS, vT, rfl, hq, HQ⟩ := hrel
        by_cases hql : q < n
        · have hqi : (q : Int) < (n : Int) := by omega
          have HLq : Hid (∀ {w' : World} {vS vT : Value} {P P' : List Nat}, QV W w' vS vT P P' → w'.cell? ⟨bL, oL + q, none⟩ = some (.int .i64 (l q : Nat))) := fun h => ((HV.out.bel.trans (h.bel.mono hbz)).cell (p := ⟨bL, oL + q, none⟩) HL.out.1).trans (HL.out.2 q hql)
          have HTk1 : Hid ((List.range (q + 1)).map (fun i => N (g (l i))) = (List.range q).map (fun i => N (g (l i))) ++ [N (g (l q))]) := by show _ = _; rw [List.range_succ, List.map_append]; rfl
          have HTk2 : Hid ((List.range (q + 1)).map (fun i => N (f (l i))) = (List.range q).map (fun i => N (f (l i))) ++ [N (f (l q))]) := by show _ = _; rw [List.range_succ, List.map_append]; rfl
          have hin : l q < n := HLm.out _ hql
          have hPl : ((List.range q).map fun i => N (g (l i))).length = q := by rw [List.length_map, List.length_range]
          have hPl2 : ((List.range q).map fun i => N (f (l i))).length = q := by rw [List.length_map, List.length_range]
          have hlen2 : n ≤ 1152 := hn
          generalize hPS : (List.range q).map (fun i => N (g (l i))) = PS at *
          generalize hPT : (List.range q).map (fun i => N (f (l i))) = PT at *
          clear hPS hPT
          generalize l q = i at *
          have hgi := HG.out.lt i hin
          have hfi := HF.out.lt i hin
          have hini : (i : Int) < (n : Int) := by omega
          have hPS1 : PS.length ≤ 1152 := by omega
          have hPT1 : PT.length ≤ 1152 := by omega
          clear hPl hPl2 hlen2
          have HHd0 : Hid (∀ {w' : World} {vS vT : Value} {P P' : List Nat}, QV W w' vS vT P P' → (w'.cell? ⟨W.heap.size, 0, none⟩ = some vS ∧ w'.cell? ⟨w.heap.size, 0, none⟩ = some (.slice (some ⟨bS, oS, none⟩) n cS)) ∧ w'.cell? ⟨bS, oS + i, none⟩ = some (.int .i64 (g i : Nat)) ∧ w'.cell? ⟨w.heap.size + 1 + 1, g i, none⟩ = some (.int .i64 (N (g i) : Nat)) ∧ w'.cell? ⟨bL, oL + q, none⟩ = some (.int .i64 (i : Nat))) := fun h =>
            ⟨⟨(two_of_block h.p).1.1, (h.bel.cell (p := ⟨w.heap.size, 0, none⟩) (lt_of_block HV.out.x)).trans (two_of_block HV.out.x).1.1⟩, ((HV.out.bel.trans (h.bel.mono hbz)).cell (p := ⟨bS, oS + i, none⟩) HS.out.1).trans (HS.out.2 i hin), (h.bel.cell (p := ⟨w.heap.size + 1 + 1, g i, none⟩) HV.out.row.lt).trans (HV.out.row.cell (i := g i) hgi), HLq.out h⟩
          have HHd1 : Hid (∀ {w' : World} {vS vT : Value} {P P' : List Nat}, QV W w' vS vT P P' → (w'.cell? ⟨W.heap.size, 1, none⟩ = some vT ∧ w'.cell? ⟨w.heap.size, 1, none⟩ = some (.slice (some ⟨bT, oT, none⟩) n cT)) ∧ w'.cell? ⟨bT, oT + i, none⟩ = some (.int .i64 (f i : Nat)) ∧ w'.cell? ⟨w.heap.size + 1 + 1, f i, none⟩ = some (.int .i64 (N (f i) : Nat)) ∧ w'.cell? ⟨bL, oL + q, none⟩ = some (.int .i64 (i : Nat))) := fun h =>
            ⟨⟨(two_of_block h.p).1.2, (h.bel.cell (p := ⟨w.heap.size, 1, none⟩) (lt_of_block HV.out.x)).trans (two_of_block HV.out.x).1.2⟩, ((HV.out.bel.trans (h.bel.mono hbz)).cell (p := ⟨bT, oT + i, none⟩) HT.out.1).trans (HT.out.2 i hin), (h.bel.cell (p := ⟨w.heap.size + 1 + 1, f i, none⟩) HV.out.row.lt).trans (HV.out.row.cell (i := f i) hfi), HLq.out h⟩
          generalize g i = gi at *
          generalize f i = fi at *
          generalize N gi = ng at *
          generalize N fi = nf at *
          have hgii : (gi : Int) < (n : Int) := by omega
          have hfii : (fi : Int) < (n : Int) := by omega
          have HQa := Lib.hid HQ.out.drew
          go_upto_region 10 with fail
          go_cut [8] (fun s9 wx => s9 = .int .i64 (q : Nat) ∧ ∃ vS', Hid (QV W wx vS' vT (PS ++ [ng]) PT))
          case first =>
            obtain ⟨wd0, hwd0⟩ : ∃ wd0, wd0 = wr.drew := ⟨_, rfl⟩
            have HQd : Hid (QV W wd0 vS vT PS PT) := by rw [hwd0]; exact HQa.out
            refine region_E 14 (fun w' => (w'.cell? ⟨W.heap.size, 0, none⟩ = some vS ∧ w'.cell? ⟨w.heap.size, 0, none⟩ = some (.slice (some ⟨bS, oS, none⟩) n cS)) ∧ w'.cell? ⟨bS, oS + i, none⟩ = some (.int .i64 (gi : Nat)) ∧ w'.cell? ⟨w.heap.size + 1 + 1, gi, none⟩ = some (.int .i64 (ng : Nat)) ∧ w'.cell? ⟨bL, oL + q, none⟩ = some (.int .i64 (i : Nat))) (by kernel_rfl) ?_
            rw [← hwd0]
            clear hwd0
            have hHeld := HHd0.out HQd.out
            refine take_E (n := 14) (i := 0) (v := ?va_0) rfl (by kernel_rfl) (fun _ _ _ h => h) ?hya_0 (by rfl) hHeld ?resta_0
            case hya_0 => (intro w9 hSw; (try dsimp only at hSw); go_simp <;> with_reducible rfl)
            (try simp only [List.getElem_toArray, List.getElem_cons_zero, List.getElem_cons_succ, Act.put, List.setIfInBounds_toArray, List.set_cons_zero, List.set_cons_succ])
            refine take_E (n := 14) (i := 1) (v := ?va_1) rfl (by kernel_rfl) (fun _ _ _ h => h) ?hya_1 (by rfl) hHeld ?resta_1
            case hya_1 => (intro w9 hSw; (try dsimp only at hSw); go_simp <;> with_reducible rfl)
            (try simp only [List.getElem_toArray, List.getElem_cons_zero, List.getElem_cons_succ, Act.put, List.setIfInBounds_toArray, List.set_cons_zero, List.set_cons_succ])
            refine take_E (n := 14) (i := 2) (v := ?va_2) rfl (by kernel_rfl) (fun _ _ _ h => h) ?hya_2 (by rfl) hHeld ?resta_2
            case hya_2 => (intro w9 hSw; (try dsimp only at hSw); go_simp <;> with_reducible rfl)
            (try simp only [List.getElem_toArray, List.getElem_cons_zero, List.getElem_cons_succ, Act.put, List.setIfInBounds_toArray, List.set_cons_zero, List.set_cons_succ])
            refine take_E (n := 14) (i := 3) (v := ?va_3) rfl (by kernel_rfl) (fun _ _ _ h => h) ?hya_3 (by rfl) hHeld ?resta_3
            case hya_3 => (intro w9 hSw; (try dsimp only at hSw); go_simp <;> with_reducible rfl)
            (try simp only [List.getElem_toArray, List.getElem_cons_zero, List.getElem_cons_succ, Act.put, List.setIfInBounds_toArray, List.set_cons_zero, List.set_cons_succ])
            refine take_E (n := 14) (i := 4) (v := ?va_4) rfl (by kernel_rfl) (fun _ _ _ h => h) ?hya_4 (by rfl) hHeld ?resta_4
            case hya_4 => (intro w9 hSw; (try dsimp only at hSw); go_simp <;> with_reducible rfl)
            (try simp only [List.getElem_toArray, List.getElem_cons_zero, List.getElem_cons_succ, Act.put, List.setIfInBounds_toArray, List.set_cons_zero, List.set_cons_succ])
            refine take_E (n := 14) (i := 5) (v := ?va_5) rfl (by kernel_rfl) (fun _ _ _ h => h) ?hya_5 (by rfl) hHeld ?resta_5
            case hya_5 => (intro w9 hSw; (try dsimp only at hSw); go_simp <;> with_reducible rfl)
            (try simp only [List.getElem_toArray, List.getElem_cons_zero, List.getElem_cons_succ, Act.put, List.setIfInBounds_toArray, List.set_cons_zero, List.set_cons_succ])
            refine take_E (n := 14) (i := 6) (v := ?va_6) rfl (by kernel_rfl) (fun _ _ _ h => h) ?hya_6 (by rfl) hHeld ?resta_6
            case hya_6 => (intro w9 hSw; (try dsimp only at hSw); go_simp <;> with_reducible rfl)
            (try simp only [List.getElem_toArray, List.getElem_cons_zero, List.getElem_cons_succ, Act.put, List.setIfInBounds_toArray, List.set_cons_zero, List.set_cons_succ])
            refine take_E (n := 14) (i := 7) (v := ?va_7) rfl (by kernel_rfl) (fun _ _ _ h => h) ?hya_7 (by rfl) hHeld ?resta_7
            case hya_7 => (intro w9 hSw; (try dsimp only at hSw); go_simp <;> with_reducible rfl)
            (try simp only [List.getElem_toArray, List.getElem_cons_zero, List.getElem_cons_succ, Act.put, List.setIfInBounds_toArray, List.set_cons_zero, List.set_cons_succ])
            refine take_E (n := 14) (i := 8) (v := ?va_8) rfl (by kernel_rfl) (fun _ _ _ h => h) ?hya_8 (by rfl) hHeld ?resta_8
            case hya_8 => (intro w9 hSw; (try dsimp only at hSw); go_simp <;> with_reducible rfl)
            (try simp only [List.getElem_toArray, List.getElem_cons_zero, List.getElem_cons_succ, Act.put, List.setIfInBounds_toArray, List.set_cons_zero, List.set_cons_succ])
            refine take_E (n := 14) (i := 9) (v := ?va_9) rfl (by kernel_rfl) (fun _ _ _ h => h) ?hya_9 (by rfl) hHeld ?resta_9
            case hya_9 => (intro w9 hSw; (try dsimp only at hSw); go_simp <;> with_reducible rfl)
            (try simp only [List.getElem_toArray, List.getElem_cons_zero, List.getElem_cons_succ, Act.put, List.setIfInBounds_toArray, List.set_cons_zero, List.set_cons_succ])
            refine take_E (n := 14) (i := 10) (v := ?va_10) rfl (by kernel_rfl) (fun _ _ _ h => h) ?hya_10 (by rfl) hHeld ?resta_10
            case hya_10 => (intro w9 hSw; (try dsimp only at hSw); go_simp <;> with_reducible rfl)
            (try simp only [List.getElem_toArray, List.getElem_cons_zero, List.getElem_cons_succ, Act.put, List.setIfInBounds_toArray, List.set_cons_zero, List.set_cons_succ])
            refine take_E (n := 14) (i := 11) (v := ?va_11) rfl (by kernel_rfl) (fun _ _ _ h => h) ?hya_11 (by rfl) hHeld ?resta_11
            case hya_11 => (intro w9 hSw; (try dsimp only at hSw); go_simp <;> with_reducible rfl)
            (try simp only [List.getElem_toArray, List.getElem_cons_zero, List.getElem_cons_succ, Act.put, List.setIfInBounds_toArray, List.set_cons_zero, List.set_cons_succ])
            refine take_E (n := 14) (i := 12) (v := ?va_12) rfl (by kernel_rfl) (fun _ _ _ h => h) ?hya_12 (by rfl) hHeld ?resta_12
            case hya_12 => (intro w9 hSw; (try dsimp only at hSw); go_simp <;> with_reducible rfl)
            (try simp only [List.getElem_toArray, List.getElem_cons_zero, List.getElem_cons_succ, Act.put, List.setIfInBounds_toArray, List.set_cons_zero, List.set_cons_succ])
            refine one_E (n := 14) (i := 13) (by kernel_rfl) rfl (fun K hK => ?_)
            go_simp
            refine hK.out _ _ (fun _ => HHd0.out (HQd.out.alloc _)) (fun hHeld13 => ?_)
            clear hK K
            (try simp only [List.getElem_toArray, List.getElem_cons_zero, List.getElem_cons_succ, Act.put, List.setIfInBounds_toArray, List.set_cons_zero, List.set_cons_succ])
            refine one_E (n := 14) (i := 14) (by kernel_rfl) rfl (fun K hK => ?_)
            refine step_append_lies _ (by rfl) _ _ _ (by rfl) (W.heap.size + 1) 3 i0 _ 1 8 Try.underlying22 hi0 z0 z1 z2 rfl (by omega) vS PS.length (zs (iz PS)) (by rfl) (HQd.out.alloc _).rS ⟨wd0.heap.size, 0, none⟩ 1 1 [.int .i64 (ng : Nat)] (by rfl) (by rfl) (World.news_of_block (cs := #[.int .i64 (ng : Nat)]) (t := 3) (fr := (0, 0)) (heap_alloc_new wd0 _)) (by simp [Value.oneCell']) (by omega) (by unfold maxLen; omega) (by omega) (by have := lt_of_block HQd.out.p; simp; omega) (wd0.heap.size + 1) (by simp) ?_
            intro gg cap' p2 hown2 hgrow hat hlt3
            obtain ⟨hpb, hq9⟩ := (HQd.out.alloc _).pushS hown2 hgrow (by simpa using hat)
            have HQb := Lib.hid hq9
            have fz := (two_of_block hpb).2
            have qz := (two_of_block hpb).1
            clear hown2 hgrow hat hq9
            refine hK.out _ _ (fun h => absurd h (by decide)) (fun hHeld14 => ?_)
            clear hK K
            (try simp only [List.getElem_toArray, List.getElem_cons_zero, List.getElem_cons_succ, Act.put, List.setIfInBounds_toArray, List.set_cons_zero, List.set_cons_succ])
            refine one_E (n := 14) (i := 15) (by kernel_rfl) rfl (fun K hK => ?_)
            go_simp
            refine hK.out _ _ (fun h => absurd h (by decide)) (fun hHeld15 => ?_)
            clear hK K
            (try simp only [List.getElem_toArray, List.getElem_cons_zero, List.getElem_cons_succ, Act.put, List.setIfInBounds_toArray, List.set_cons_zero, List.set_cons_succ])
            refine one_E (n := 14) (i := 16) (by kernel_rfl) rfl (fun K hK => ?_)
            go_simp
            refine hK.out _ _ (fun h => absurd h (by decide)) (fun hHeld16 => ?_)
            clear hK K
            (try simp only [List.getElem_toArray, List.getElem_cons_zero, List.getElem_cons_succ, Act.put, List.setIfInBounds_toArray, List.set_cons_zero, List.set_cons_succ])
            refine done_E (by kernel_rfl) ?_ _
            go_wp2_with fail
            go_meet
            exact ⟨rfl, _, HQb⟩
          case rest =>
            obtain ⟨rfl, vS', HQ1⟩ := hcut
            clear HQa HQ
            go_wp2
            have HQe := Lib.hid HQ1.drew
            obtain ⟨wd1, hwd1⟩ : ∃ wd1, wd1 = wc.drew := ⟨_, rfl⟩
            have HQf : Hid (QV W wd1 vS' vT (PS ++ [ng]) PT) := by rw [hwd1]; exact HQe.out
            refine region_E 14 (fun w' => (w'.cell? ⟨W.heap.size, 1, none⟩ = some vT ∧ w'.cell? ⟨w.heap.size, 1, none⟩ = some (.slice (some ⟨bT, oT, none⟩) n cT)) ∧ w'.cell? ⟨bT, oT + i, none⟩ = some (.int .i64 (fi : Nat)) ∧ w'.cell? ⟨w.heap.size + 1 + 1, fi, none⟩ = some (.int .i64 (nf : Nat)) ∧ w'.cell? ⟨bL, oL + q, none⟩ = some (.int .i64 (i : Nat))) (by kernel_rfl) ?_
            rw [← hwd1]
            clear hwd1
            have hHeld := HHd1.out HQf.out
            refine take_E (n := 14) (i := 0) (v := ?vb_0) rfl (by kernel_rfl) (fun _ _ _ h => h) ?hyb_0 (by rfl) hHeld ?restb_0
            case hyb_0 => (intro w9 hSw; (try dsimp only at hSw); go_simp <;> with_reducible rfl)
            (try simp only [List.getElem_toArray, List.getElem_cons_zero, List.getElem_cons_succ, Act.put, List.setIfInBounds_toArray, List.set_cons_zero, List.set_cons_succ])
            refine take_E (n := 14) (i := 1) (v := ?vb_1) rfl (by kernel_rfl) (fun _ _ _ h => h) ?hyb_1 (by rfl) hHeld ?restb_1
            case hyb_1 => (intro w9 hSw; (try dsimp only at hSw); go_simp <;> with_reducible rfl)
            (try simp only [List.getElem_toArray, List.getElem_cons_zero, List.getElem_cons_succ, Act.put, List.setIfInBounds_toArray, List.set_cons_zero, List.set_cons_succ])
            refine take_E (n := 14) (i := 2) (v := ?vb_2) rfl (by kernel_rfl) (fun _ _ _ h => h) ?hyb_2 (by rfl) hHeld ?restb_2
            case hyb_2 => (intro w9 hSw; (try dsimp only at hSw); go_simp <;> with_reducible rfl)
            (try simp only [List.getElem_toArray, List.getElem_cons_zero, List.getElem_cons_succ, Act.put, List.setIfInBounds_toArray, List.set_cons_zero, List.set_cons_succ])
            refine take_E (n := 14) (i := 3) (v := ?vb_3) rfl (by kernel_rfl) (fun _ _ _ h => h) ?hyb_3 (by rfl) hHeld ?restb_3
            case hyb_3 => (intro w9 hSw; (try dsimp only at hSw); go_simp <;> with_reducible rfl)
            (try simp only [List.getElem_toArray, List.getElem_cons_zero, List.getElem_cons_succ, Act.put, List.setIfInBounds_toArray, List.set_cons_zero, List.set_cons_succ])
            refine take_E (n := 14) (i := 4) (v := ?vb_4) rfl (by kernel_rfl) (fun _ _ _ h => h) ?hyb_4 (by rfl) hHeld ?restb_4
            case hyb_4 => (intro w9 hSw; (try dsimp only at hSw); go_simp <;> with_reducible rfl)
            (try simp only [List.getElem_toArray, List.getElem_cons_zero, List.getElem_cons_succ, Act.put, List.setIfInBounds_toArray, List.set_cons_zero, List.set_cons_succ])
            refine take_E (n := 14) (i := 5) (v := ?vb_5) rfl (by kernel_rfl) (fun _ _ _ h => h) ?hyb_5 (by rfl) hHeld ?restb_5
            case hyb_5 => (intro w9 hSw; (try dsimp only at hSw); go_simp <;> with_reducible rfl)
            (try simp only [List.getElem_toArray, List.getElem_cons_zero, List.getElem_cons_succ, Act.put, List.setIfInBounds_toArray, List.set_cons_zero, List.set_cons_succ])
            refine take_E (n := 14) (i := 6) (v := ?vb_6) rfl (by kernel_rfl) (fun _ _ _ h => h) ?hyb_6 (by rfl) hHeld ?restb_6
            case hyb_6 => (intro w9 hSw; (try dsimp only at hSw); go_simp <;> with_reducible rfl)
            (try simp only [List.getElem_toArray, List.getElem_cons_zero, List.getElem_cons_succ, Act.put, List.setIfInBounds_toArray, List.set_cons_zero, List.set_cons_succ])
            refine take_E (n := 14) (i := 7) (v := ?vb_7) rfl (by kernel_rfl) (fun _ _ _ h => h) ?hyb_7 (by rfl) hHeld ?restb_7
            case hyb_7 => (intro w9 hSw; (try dsimp only at hSw); go_simp <;> with_reducible rfl)
            (try simp only [List.getElem_toArray, List.getElem_cons_zero, List.getElem_cons_succ, Act.put, List.setIfInBounds_toArray, List.set_cons_zero, List.set_cons_succ])
            refine take_E (n := 14) (i := 8) (v := ?vb_8) rfl (by kernel_rfl) (fun _ _ _ h => h) ?hyb_8 (by rfl) hHeld ?restb_8
            case hyb_8 => (intro w9 hSw; (try dsimp only at hSw); go_simp <;> with_reducible rfl)
            (try simp only [List.getElem_toArray, List.getElem_cons_zero, List.getElem_cons_succ, Act.put, List.setIfInBounds_toArray, List.set_cons_zero, List.set_cons_succ])
            refine take_E (n := 14) (i := 9) (v := ?vb_9) rfl (by kernel_rfl) (fun _ _ _ h => h) ?hyb_9 (by rfl) hHeld ?restb_9
            case hyb_9 => (intro w9 hSw; (try dsimp only at hSw); go_simp <;> with_reducible rfl)
            (try simp only [List.getElem_toArray, List.getElem_cons_zero, List.getElem_cons_succ, Act.put, List.setIfInBounds_toArray, List.set_cons_zero, List.set_cons_succ])
            refine take_E (n := 14) (i := 10) (v := ?vb_10) rfl (by kernel_rfl) (fun _ _ _ h => h) ?hyb_10 (by rfl) hHeld ?restb_10
            case hyb_10 => (intro w9 hSw; (try dsimp only at hSw); go_simp <;> with_reducible rfl)
            (try simp only [List.getElem_toArray, List.getElem_cons_zero, List.getElem_cons_succ, Act.put, List.setIfInBounds_toArray, List.set_cons_zero, List.set_cons_succ])
            refine take_E (n := 14) (i := 11) (v := ?vb_11) rfl (by kernel_rfl) (fun _ _ _ h => h) ?hyb_11 (by rfl) hHeld ?restb_11
            case hyb_11 => (intro w9 hSw; (try dsimp only at hSw); go_simp <;> with_reducible rfl)
            (try simp only [List.getElem_toArray, List.getElem_cons_zero, List.getElem_cons_succ, Act.put, List.setIfInBounds_toArray, List.set_cons_zero, List.set_cons_succ])
            refine take_E (n := 14) (i := 12) (v := ?vb_12) rfl (by kernel_rfl) (fun _ _ _ h => h) ?hyb_12 (by rfl) hHeld ?restb_12
            case hyb_12 => (intro w9 hSw; (try dsimp only at hSw); go_simp <;> with_reducible rfl)
            (try simp only [List.getElem_toArray, List.getElem_cons_zero, List.getElem_cons_succ, Act.put, List.setIfInBounds_toArray, List.set_cons_zero, List.set_cons_succ])
            refine one_E (n := 14) (i := 13) (by kernel_rfl) rfl (fun K hK => ?_)
            go_simp
            refine hK.out _ _ (fun _ => HHd1.out (HQf.out.alloc _)) (fun hHeld13 => ?_)
            clear hK K
            (try simp only [List.getElem_toArray, List.getElem_cons_zero, List.getElem_cons_succ, Act.put, List.setIfInBounds_toArray, List.set_cons_zero, List.set_cons_succ])
            refine one_E (n := 14) (i := 14) (by kernel_rfl) rfl (fun K hK => ?_)
            refine step_append_lies _ (by rfl) _ _ _ (by rfl) (W.heap.size + 1) 3 i0 _ 1 8 Try.underlying22 hi0 z0 z1 z2 rfl (by omega) vT PT.length (zs (iz PT)) (by rfl) (HQf.out.alloc _).rT ⟨wd1.heap.size, 0, none⟩ 1 1 [.int .i64 (nf : Nat)] (by rfl) (by rfl) (World.news_of_block (cs := #[.int .i64 (nf : Nat)]) (t := 3) (fr := (0, 0)) (heap_alloc_new wd1 _)) (by simp [Value.oneCell']) (by omega) (by unfold maxLen; omega) (by omega) (by have := lt_of_block HQf.out.p; simp; omega) (wd1.heap.size + 1) (by simp) ?_
            intro gg cap' p2 hown2 hgrow hat hlt3
            obtain ⟨hpb, hq9⟩ := (HQf.out.alloc _).pushT hown2 hgrow (by simpa using hat)
            have HQc := Lib.hid hq9
            have fz := (two_of_block hpb).2
            have qz := (two_of_block hpb).1
            clear hown2 hgrow hat hq9
            refine hK.out _ _ (fun h => absurd h (by decide)) (fun hHeld14 => ?_)
            clear hK K
            (try simp only [List.getElem_toArray, List.getElem_cons_zero, List.getElem_cons_succ, Act.put, List.setIfInBounds_toArray, List.set_cons_zero, List.set_cons_succ])
            refine one_E (n := 14) (i := 15) (by kernel_rfl) rfl (fun K hK => ?_)
            go_simp
            refine hK.out _ _ (fun h => absurd h (by decide)) (fun hHeld15 => ?_)
            clear hK K
            (try simp only [List.getElem_toArray, List.getElem_cons_zero, List.getElem_cons_succ, Act.put, List.setIfInBounds_toArray, List.set_cons_zero, List.set_cons_succ])
            refine one_E (n := 14) (i := 16) (by kernel_rfl) rfl (fun K hK => ?_)
            go_simp
            refine hK.out _ _ (fun h => absurd h (by decide)) (fun hHeld16 => ?_)
            clear hK K
            (try simp only [List.getElem_toArray, List.getElem_cons_zero, List.getElem_cons_succ, Act.put, List.setIfInBounds_toArray, List.set_cons_zero, List.set_cons_succ])
            refine done_E (by kernel_rfl) ?_ _
            go_wp2
            go_roundw
            case rel => exact ⟨q + 1, _, _, by go_num, hql, by rw [HTk1.out, HTk2.out]; exact HQc.out⟩
            case measure => simp [intOf]; omega
        · obtain rfl : n = q := by omega
          have hq2 : ¬ (n : Int) < (n : Int) := by omega
          obtain ⟨A1, c1, rfl⟩ := own_len HQ.out.rS
          obtain ⟨A2, c2, rfl⟩ := own_len HQ.out.rT
          have HSr := Lib.hid HQ.out.rS
          have HTr := Lib.hid HQ.out.rT
          have HPx := Lib.hid HQ.out.p
          rw [List.length_map, List.length_range] at HSr HTr HPx
          rw [List.length_map, List.length_range] at HPx
          have HRx : Hid (wr.heap[w.heap.size + 1]? = some (.cells #[.slice none 0 0, .slice none 0 0] 24 (0, 0))) := (HQ.out.bel.block _ (lt_of_block HV.out.r)).trans HV.out.r
          have HBx := Lib.hid (HV.out.bel.trans (HQ.out.bel.mono hbz))
          have hlr := lt_of_block HV.out.r
          obtain ⟨⟨p1, p2⟩, pf⟩ := two_of_block HPx.out
          obtain ⟨⟨r1, r2⟩, rf⟩ := two_of_block HRx.out
          have hzz := lt_of_block HRx.out
          clear HQ
          go_wp2
          have hrl := two_set1 (two_set0 HRx.out (.slice A1 n c1)) (.slice A2 n c2)
          obtain ⟨⟨s1, s2⟩, _⟩ := two_of_block hrl
          refine bodyPost_ret (v := .agg #[.slice A1 n c1, .slice A2 n c2]) ?_ rfl ⟨A1, c1, A2, c2, rfl, ?_, ?_, (HBx.out.setCell (by show _ ≤ w.heap.size + 1; omega) _).setCell (by show _ ≤ w.heap.size + 1; omega) _⟩
          · simp [results, Try.results58, go_sem, s1, s2]
          · rw [HNe9.out]; exact own_base (B := W.heap.size + 1) (by omega) (own_set (own_set HSr.out (by omega) _) (by omega) _)
          · rw [HNe9.out]; exact own_base (B := W.heap.size + 1) (by omega) (own_set (own_set HTr.out (by omega) _) (by omega) _)
end Go.Proofs.Ytmikhkolbkdnpaa
namespace Go.Proofs.Ytmikhkolbkdnpaa
open Go.RowKit
set_option linter.unusedVariables false
set_option linter.unusedSimpArgs false

def pjR (z : Nat → Nat) : Nat → (Nat → Nat) × List Nat
  | 0 => (fun _ => 0, [])
  | k + 1 => if k < z k then (fun j => if j = z k then (pjR z k).2.length else if j = k then (pjR z k).2.length else (pjR z k).1 j, (pjR z k).2 ++ [k]) else pjR z k
theorem pjR_new {z : Nat → Nat} {k : Nat} (h : k < z k) : pjR z (k + 1) = (fun j => if j = z k then (pjR z k).2.length else if j = k then (pjR z k).2.length else (pjR z k).1 j, (pjR z k).2 ++ [k]) := if_pos h
theorem pjR_old {z : Nat → Nat} {k : Nat} (h : ¬ k < z k) : pjR z (k + 1) = pjR z k := if_neg h
theorem pjR_len (z : Nat → Nat) : ∀ k, (pjR z k).2.length ≤ k
  | 0 => Nat.le_refl _
  | k + 1 => by
    have := pjR_len z k
    by_cases h : k < z k
    · rw [pjR_new h]; show ((pjR z k).2 ++ [k]).length ≤ _; simp; omega
    · rw [pjR_old h]; exact Nat.le_succ_of_le this
theorem pj_same {z : Nat → Nat} {n : Nat} (hzl : ∀ i, i < n → z i < n) (hzz : ∀ i, i < n → z (z i) = i) (hne : ∀ i, i < n → z i ≠ i) : ∀ k, k ≤ n → (pjR z k).2 = (pjN z k).2 ∧ (∀ j, j < k → (pjR z k).1 j = (pjN z k).1 j) ∧ ∀ j, j < n → k ≤ j → z j < k → (pjR z k).1 j = (pjN z k).1 (z j)
  | 0, _ => ⟨rfl, fun j h => by omega, fun j _ _ h => by omega⟩
  | k + 1, hk => by
    obtain ⟨h1, h2, h3⟩ := pj_same hzl hzz hne k (by omega)
    have hn := hne k (by omega)
    have hkk := hzz k (by omega)
    by_cases h : k < z k
    · rw [pjR_new h, pjN_new (by omega)]
      refine ⟨by rw [h1], fun j hj => ?_, fun j hjn hj hz => ?_⟩
      · show (if j = z k then (pjR z k).2.length else if j = k then (pjR z k).2.length else (pjR z k).1 j) = if j = k then (pjN z k).2.length else (pjN z k).1 j
        rw [if_neg (by omega)]
        by_cases e : j = k
        · rw [if_pos e, if_pos e, h1]
        · rw [if_neg e, if_neg e, h2 j (by omega)]
      · show (if j = z k then (pjR z k).2.length else if j = k then (pjR z k).2.length else (pjR z k).1 j) = if z j = k then (pjN z k).2.length else (pjN z k).1 (z j)
        by_cases e : z j = k
        · rw [if_pos e, if_pos (by rw [← e, hzz j hjn]), h1]
        · rw [if_neg e, if_neg (fun e2 => e (by rw [e2, hkk])), if_neg (by omega), h3 j hjn (by omega) (by omega)]
    · rw [pjR_old h, pjN_old (by omega)]
      refine ⟨h1, fun j hj => ?_, fun j hjn hj hz => ?_⟩
      · show (pjR z k).1 j = if j = k then (pjN z k).1 (z k) else (pjN z k).1 j
        by_cases e : j = k
        · rw [if_pos e, e]; exact h3 k (by omega) (Nat.le_refl _) (by omega)
        · rw [if_neg e]; exact h2 j (by omega)
      · show (pjR z k).1 j = if z j = k then (pjN z k).1 (z k) else (pjN z k).1 (z j)
        have hzk : z j ≠ k := fun e => by have := hzz j hjn; rw [e] at this; omega
        rw [if_neg hzk]; exact h3 j hjn (by omega) (by omega)
theorem pjN_id {z : Nat → Nat} : ∀ k, (∀ i, i < k → z i = i) → (pjN z k).2 = List.range k ∧ ∀ j, j < k → (pjN z k).1 j = j
  | 0, _ => ⟨rfl, fun j h => by omega⟩
  | k + 1, h => by
    obtain ⟨h1, h2⟩ := pjN_id k fun i hi => h i (by omega)
    have e := h k (by omega)
    rw [pjN_new (by omega)]
    refine ⟨by show _ ++ [k] = _; rw [h1, List.range_succ], fun j hj => ?_⟩
    show (if j = k then (pjN z k).2.length else (pjN z k).1 j) = j
    by_cases e2 : j = k
    · rw [if_pos e2, h1, List.length_range, e2]
    · rw [if_neg e2]; exact h2 j (by omega)
theorem plN_id : ∀ k j, j < k → plN (fun i => i) k j = j
  | 0, j, h => by omega
  | k + 1, j, h => by
    show (if j = k then k else plN (fun i => i) k j) = j
    by_cases e : j = k
    · rw [if_pos e, e]
    · rw [if_neg e]; exact plN_id k j (by omega)
theorem map_getD {L : List Nat} {F : Nat → Nat} : (List.range L.length).map (fun i => F (L.getD i 0)) = L.map F := by
  apply List.ext_getElem
  · simp
  · intro i h1 h2
    simp at h1
    simp [List.getD, h1]
/-- The lists of the projective action. -/
def pS (g : Nat → Nat) (n : Nat) : List Nat := (pjN (fun i => g (g i)) n).2.map fun i => (pjN (fun i => g (g i)) n).1 (g i)
def pT (g f : Nat → Nat) (n : Nat) : List Nat := (pjN (fun i => g (g i)) n).2.map fun i => (pjN (fun i => g (g i)) n).1 (f i)
theorem own_rdn {w : World} {B n c : Nat} {A : Option Addr} {L : List Nat} (h : w.ownsRow B 3 1 (.slice A n c) n (zs (iz L))) (hl : L.length = n) (h0 : 0 < n) : ∃ gl, A = some ⟨gl, 0, none⟩ ∧ RdN w w.heap.size gl 0 n (fun j => L.getD j 0) := by
  obtain ⟨gl, rfl⟩ : ∃ gl, A = some ⟨gl, 0, none⟩ := by
    rcases h.2 with ⟨_, h⟩ | ⟨gl, _, _, h, _⟩
    · omega
    · cases h; exact ⟨gl, rfl⟩
  refine ⟨gl, rfl, (h.lt gl rfl).2, fun j hj => ?_⟩
  have hc := h.cells (g := gl) rfl _ _ (zs_get (iz L) j (by rw [iz_len]; omega))
  have e : (⟨gl, 0, none⟩ : Addr).add j = ⟨gl, 0 + j, none⟩ := by unfold Addr.add; split <;> simp_all
  rw [e] at hc
  rw [hc]
  show some _ = some (Value.int .i64 ((L.getD j 0 : Nat) : Int))
  rw [List.getD_eq_getElem?_getD, List.getElem?_eq_getElem (by omega)]
  simp [iz]
theorem rp_fin {w w' : World} {B m c1 c2 : Nat} {A1 A2 : Option Addr} {PS PT QS QT : List Nat} (h1 : w'.ownsRow B 3 1 (.slice A1 m c1) m (zs (iz PS))) (h2 : w'.ownsRow B 3 1 (.slice A2 m c2) m (zs (iz PT))) (e1 : QS = PS) (e2 : QT = PT) (l1 : PS.length = m) (l2 : PT.length = m) (hb : Below w.heap.size w w') :
    ∃ A c A' c', Ending.returned (.agg #[.slice A1 m c1, .slice A2 m c2]) = .returned (.agg #[.slice A QS.length c, .slice A' QT.length c']) ∧ RdZ w' w'.heap.size A c (iz QS) ∧ RdZ w' w'.heap.size A' c' (iz QT) ∧ Below w.heap.size w w' := by
  subst e1 e2
  have k1 : m = (iz QS).length := by rw [iz_len, l1]
  have k2 : m = (iz QT).length := by rw [iz_len, l2]
  have g1 : w'.ownsRow B 3 1 (.slice A1 m c1) (iz QS).length (zs (iz QS)) := k1 ▸ h1
  have g2 : w'.ownsRow B 3 1 (.slice A2 m c2) (iz QT).length (zs (iz QT)) := k2 ▸ h2
  obtain ⟨A, c, e, r⟩ := own_rdz g1
  obtain ⟨A', c', e', r'⟩ := own_rdz g2
  injection e with q1 q2 q3
  injection e' with q4 q5 q6
  subst q1 q3 q4 q6
  exact ⟨A1, c1, A2, c2, by rw [l1, l2], r, r', hb⟩
theorem nw_start {w w1 : World} {xs ys : Array Value} {n : Nat} (hx : w1.heap[w.heap.size]? = some (.cells xs 24 (0, 0))) (hr : w1.heap[w.heap.size + 1]? = some (.cells ys 24 (0, 0))) (hb : Below w.heap.size w w1) : NW w (w1.alloc (.cells (madeCells #[.int .i64 0] n) 3)) w1.heap.size xs ys n (fun _ => 0) (.slice none 0 0) [] :=
  ⟨World.rowIs_made w1 (.int .i64 0) n 3, World.ownsRow_nil _ _ _ _, block_alloc hx _, block_alloc hr _, hb.alloc hb.size _, by simp [Value.ownBlock], lt_of_block hr⟩
set_option maxHeartbeats 6400000 in
set_option maxRecDepth 1000000 in
theorem rprojective_yes {g f : Nat → Nat} {n bS oS bT oT cS cT : Nat} (w : World) (hs : RdN w w.heap.size bS oS n g) (ht : RdN w w.heap.size bT oT n f) (hg : Prm g n) (hf : Prm f n) (h0 : 0 < n) (hn : n ≤ 1152) (hz : ∀ i, i < n → g (g i) = i) :
    Calls Try.prog 30 #[.agg #[.slice (some ⟨bS, oS, none⟩) n cS, .slice (some ⟨bT, oT, none⟩) n cT]] w fun e w' => ∃ A c A' c', e = .returned (.agg #[.slice A (pS g n).length c, .slice A' (pT g f n).length c']) ∧
      RdZ w' w'.heap.size A c (iz (pS g n)) ∧ RdZ w' w'.heap.size A' c' (iz (pT g f n)) ∧ Below w.heap.size w w' := by
  obtain ⟨p1, p2⟩ := pjN_id (z := fun i => g (g i)) n hz
  have ES : Hid (pS g n = (List.range n).map fun i => plN (fun i => i) n (g i)) := by
    show (pjN _ n).2.map _ = _
    rw [p1]
    exact List.map_congr_left fun i hi => by
      have hl := hg.lt i (List.mem_range.1 hi)
      rw [p2 _ hl, plN_id n _ hl]
  have ET : Hid (pT g f n = (List.range n).map fun i => plN (fun i => i) n (f i)) := by
    show (pjN _ n).2.map _ = _
    rw [p1]
    exact List.map_congr_left fun i hi => by
      have hl := hf.lt i (List.mem_range.1 hi)
      rw [p2 _ hl, plN_id n _ hl]
  clear p1 p2
  have HMi := Lib.hid (fun W (hb : Below w.heap.size w W) (vT : Value) => rminusB_any (cS := cS) (vT := vT) W (hs.below hb |>.mono hb.size) hg h0 true (by simp [hz 0 h0]))
  have HLi := Lib.hid (fun W => rline_any (n := n) W hn)
  have HNu : Hid (∀ (W : World) (A : Option Addr) (c : Nat), Below w.heap.size w W → W.ownsRow W.heap.size 3 1 (.slice A n c) n (zs (iz (List.range n))) → False ∨ True) := fun _ _ _ _ _ => .inr trivial
  clear HNu
  have HNu : Hid (∀ (W : World) (B : Nat) (A : Option Addr) (c : Nat), Below w.heap.size w W → W.ownsRow B 3 1 (.slice A n c) n (zs (iz (List.range n))) → Calls Try.prog 58 #[.agg #[.slice (some ⟨bS, oS, none⟩) n cS, .slice (some ⟨bT, oT, none⟩) n cT], .slice A n c] W fun e w' => ∃ A c A' c', e = .returned (.agg #[.slice A n c, .slice A' n c']) ∧
      w'.ownsRow W.heap.size 3 1 (.slice A n c) n (zs (iz ((List.range n).map fun i => plN (fun i => i) n (g i)))) ∧ w'.ownsRow W.heap.size 3 1 (.slice A' n c') n (zs (iz ((List.range n).map fun i => plN (fun i => i) n (f i)))) ∧ Below W.heap.size W w') := fun W B A c hb ho => by
    obtain ⟨gl, rfl, hr⟩ := own_rdn ho (by simp) h0
    have hr' : RdN W W.heap.size gl 0 n (fun i => i) := ⟨hr.1, fun i hi => by rw [hr.2 i hi]; simp [List.getD, hi]⟩
    exact rnumber_any W ((hs.below hb).mono hb.size) ((ht.below hb).mono hb.size) hr' hg hf (fun i hi => hi) hn
  clear hs ht hg hf hz
  have T0 : Hid (((w.alloc (.cells #[.slice (some ⟨bS, oS, none⟩) n cS, .slice (some ⟨bT, oT, none⟩) n cT] 24)).alloc (.cells #[.slice none 0 0, .slice none 0 0] 24)).heap[w.heap.size]? = some (.cells #[.slice (some ⟨bS, oS, none⟩) n cS, .slice (some ⟨bT, oT, none⟩) n cT] 24 (0, 0))) := block_alloc (heap_alloc_new w _) _
  have hr0 := heap_alloc_new (w.alloc (.cells #[.slice (some ⟨bS, oS, none⟩) n cS, .slice (some ⟨bT, oT, none⟩) n cT] 24)) (.cells #[.slice none 0 0, .slice none 0 0] 24)
  rw [show (w.alloc (.cells #[.slice (some ⟨bS, oS, none⟩) n cS, .slice (some ⟨bT, oT, none⟩) n cT] 24)).heap.size = w.heap.size + 1 by simp] at hr0
  have R0 := Lib.hid hr0
  have HB0 : Hid (Below w.heap.size w ((w.alloc (.cells #[.slice (some ⟨bS, oS, none⟩) n cS, .slice (some ⟨bT, oT, none⟩) n cT] 24)).alloc (.cells #[.slice none 0 0, .slice none 0 0] 24))) := below2 w _ _
  clear hr0
  go_enter Try.func30, Try.ntmps30
  go_wp2_with (first
    | (go_at_call 31; ((with_reducible refine (HMi.out _ HB0.out _).mono ?_); rintro e w1 ⟨rfl, hb⟩; have HB1 := Lib.hid (bel0 HB0.out hb); have T1 := Lib.hid (block_below T0.out hb); have R1 := Lib.hid (block_below R0.out hb); clear hb))
    | fail)
  have X1 : Hid (w1.drew.heap[w.heap.size]? = some (.cells #[.slice (some ⟨bS, oS, none⟩) n cS, .slice (some ⟨bT, oT, none⟩) n cT] 24 (0, 0))) := T1.out
  have Y1 : Hid (w1.drew.heap[w.heap.size + 1]? = some (.cells #[.slice none 0 0, .slice none 0 0] 24 (0, 0))) := R1.out
  have D1 := Lib.hid HB1.out.drew
  have HK : Hid (∀ {W : World}, W.heap[w.heap.size]? = some (.cells #[.slice (some ⟨bS, oS, none⟩) n cS, .slice (some ⟨bT, oT, none⟩) n cT] 24 (0, 0)) → W.cell? ⟨w.heap.size, 0, none⟩ = some (.slice (some ⟨bS, oS, none⟩) n cS) ∧ W.cell? ⟨w.heap.size, 1, none⟩ = some (.slice (some ⟨bT, oT, none⟩) n cT)) := fun h => (two_of_block h).1
  have HKs : Hid (∀ {W : World} (u1 u2 : Value), W.heap[w.heap.size]? = some (.cells #[.slice (some ⟨bS, oS, none⟩) n cS, .slice (some ⟨bT, oT, none⟩) n cT] 24 (0, 0)) → ((W.setCell ⟨w.heap.size + 1, 0, none⟩ u1).setCell ⟨w.heap.size + 1, 1, none⟩ u2).cell? ⟨w.heap.size, 0, none⟩ = some (.slice (some ⟨bS, oS, none⟩) n cS) ∧ ((W.setCell ⟨w.heap.size + 1, 0, none⟩ u1).setCell ⟨w.heap.size + 1, 1, none⟩ u2).cell? ⟨w.heap.size, 1, none⟩ = some (.slice (some ⟨bT, oT, none⟩) n cT)) := fun u1 u2 h => (two_of_block (set_ne (set_ne h (by omega) u1) (by omega) u2)).1
  go_region_held3 (fun w' => w'.cell? ⟨w.heap.size, 0, none⟩ = some (.slice (some ⟨bS, oS, none⟩) n cS) ∧ w'.cell? ⟨w.heap.size, 1, none⟩ = some (.slice (some ⟨bT, oT, none⟩) n cT))
    (with_reducible first | exact HKs.out _ _ X3.out | exact HK.out X3.out | exact HK.out X2.out | exact HK.out X1.out | fail)
    (first
      | (go_at_call 59; ((with_reducible refine (HLi.out _).mono ?_); rintro e w2 ⟨A2, c2, rfl, ho, hb⟩; have D2 := Lib.hid (bel0 D1.out hb); have X2 := Lib.hid (block_below X1.out hb); have Y2 := Lib.hid (block_below Y1.out hb); have O2 := Lib.hid ho; clear hb ho))
      | (go_at_call 58; ((with_reducible refine (HNu.out _ _ _ _ D2.out O2.out).mono ?_); rintro e w3 ⟨A3, c3, A4, c4, rfl, ho, ho', hb⟩; have D3 := Lib.hid (bel0 D2.out hb); have X3 := Lib.hid (block_below X2.out hb); have Y3 := Lib.hid (block_below Y2.out hb); have O3 := Lib.hid ho; have O4 := Lib.hid ho'; have hz3 := lt_of_block Y3.out; have hz2 := lt_of_block Y2.out; obtain ⟨⟨r1, r2⟩, rf⟩ := two_of_block Y3.out; clear hb ho ho'))
      | fail)
  go_wp2
  have hrl := two_set1 (two_set0 Y3.out (.slice A3 n c3)) (.slice A4 n c4)
  obtain ⟨⟨s1, s2⟩, _⟩ := two_of_block hrl
  refine bodyPost_ret (v := .agg #[.slice A3 n c3, .slice A4 n c4]) ?_ rfl (rp_fin (own_set (own_set O3.out (by omega) _) (by omega) _) (own_set (own_set O4.out (by omega) _) (by omega) _) ES.out ET.out (by simp) (by simp) ((D3.out.setCell (by show _ ≤ w.heap.size + 1; omega) _).setCell (by show _ ≤ w.heap.size + 1; omega) _))
  simp [results, Try.results30, go_sem, s1, s2]
set_option maxHeartbeats 6400000 in
set_option maxRecDepth 1000000 in
theorem rprojective_no {g f : Nat → Nat} {n bS oS bT oT cS cT : Nat} (w : World) (hs : RdN w w.heap.size bS oS n g) (ht : RdN w w.heap.size bT oT n f) (hg : Prm g n) (hf : Prm f n) (h0 : 0 < n) (hn : n ≤ 1152) (hz : ∀ i, i < n → g (g i) ≠ i) (hzz : ∀ i, i < n → g (g (g (g i))) = i) :
    Calls Try.prog 30 #[.agg #[.slice (some ⟨bS, oS, none⟩) n cS, .slice (some ⟨bT, oT, none⟩) n cT]] w fun e w' => ∃ A c A' c', e = .returned (.agg #[.slice A (pS g n).length c, .slice A' (pT g f n).length c']) ∧
      RdZ w' w'.heap.size A c (iz (pS g n)) ∧ RdZ w' w'.heap.size A' c' (iz (pT g f n)) ∧ Below w.heap.size w w' := by
  obtain ⟨i0, hi0, z0, z1, z2⟩ := info_parts Try.infoInt
  obtain ⟨p1, p2, _⟩ := pj_same (z := fun i => g (g i)) (fun i hi => hg.lt _ (hg.lt i hi)) hzz hz n (Nat.le_refl n)
  have hLm := pjN_mem (fun i => g (g i)) n
  have ES : Hid (pS g n = (List.range (pjR (fun i => g (g i)) n).2.length).map fun i => (pjR (fun i => g (g i)) n).1 (g ((pjR (fun i => g (g i)) n).2.getD i 0))) := by
    show (pjN _ n).2.map _ = _
    rw [map_getD (F := fun x => (pjR (fun i => g (g i)) n).1 (g x)), p1]
    exact List.map_congr_left fun i hi => (p2 _ (hg.lt i (hLm i hi))).symm
  have ET : Hid (pT g f n = (List.range (pjR (fun i => g (g i)) n).2.length).map fun i => (pjR (fun i => g (g i)) n).1 (f ((pjR (fun i => g (g i)) n).2.getD i 0))) := by
    show (pjN _ n).2.map _ = _
    rw [map_getD (F := fun x => (pjR (fun i => g (g i)) n).1 (f x)), p1]
    exact List.map_congr_left fun i hi => (p2 _ (hf.lt i (hLm i hi))).symm
  rw [← p1] at hLm
  have HLm0 := Lib.hid hLm
  clear p1 p2 hLm
  have hmk := fun W => mk_int2 n W hn
  have HG := Lib.hid hg
  have HF := Lib.hid hf
  have HS := Lib.hid hs
  have HT := Lib.hid ht
  have HMi := Lib.hid (fun W (hb : Below w.heap.size w W) (vT : Value) => rminusB_any (cS := cS) (vT := vT) W (hs.below hb |>.mono hb.size) hg h0 false (by simp [hz 0 h0]))
  clear hs ht hg hf hz hzz
  obtain ⟨z, hze⟩ : ∃ z : Nat → Nat, z = fun i => g (g i) := ⟨_, rfl⟩
  rw [← hze] at ES ET HLm0
  have HZi : Hid (∀ i, g (g i) = z i) := fun i => by rw [hze]
  clear hze
  have T0 : Hid (((w.alloc (.cells #[.slice (some ⟨bS, oS, none⟩) n cS, .slice (some ⟨bT, oT, none⟩) n cT] 24)).alloc (.cells #[.slice none 0 0, .slice none 0 0] 24)).heap[w.heap.size]? = some (.cells #[.slice (some ⟨bS, oS, none⟩) n cS, .slice (some ⟨bT, oT, none⟩) n cT] 24 (0, 0))) := block_alloc (heap_alloc_new w _) _
  have hr0 := heap_alloc_new (w.alloc (.cells #[.slice (some ⟨bS, oS, none⟩) n cS, .slice (some ⟨bT, oT, none⟩) n cT] 24)) (.cells #[.slice none 0 0, .slice none 0 0] 24)
  rw [show (w.alloc (.cells #[.slice (some ⟨bS, oS, none⟩) n cS, .slice (some ⟨bT, oT, none⟩) n cT] 24)).heap.size = w.heap.size + 1 by simp] at hr0
  have R0 := Lib.hid hr0
  have HB0 : Hid (Below w.heap.size w ((w.alloc (.cells #[.slice (some ⟨bS, oS, none⟩) n cS, .slice (some ⟨bT, oT, none⟩) n cT] 24)).alloc (.cells #[.slice none 0 0, .slice none 0 0] 24))) := below2 w _ _
  clear hr0
  go_enter Try.func30, Try.ntmps30
  go_wp2_with (first
    | (go_at_call 31; ((with_reducible refine (HMi.out _ HB0.out _).mono ?_); rintro e w1 ⟨rfl, hb⟩; have HV0 := Lib.hid (nw_start (n := n) (block_below T0.out hb) (block_below R0.out hb) (bel0 HB0.out hb)); have t1 := (two_of_block (block_below T0.out hb)).1; clear hb))
    | fail)
  obtain ⟨W0, hW0⟩ : ∃ W0, W0 = w1.alloc (.cells (madeCells #[.int .i64 0] n) 3) := ⟨_, rfl⟩
  rw [← hW0] at HV0 ⊢
  clear hW0 hmk t1
  go_loopw [3, 5, 6] (fun V I _ wr => ∃ (k : Nat) (A : Option Addr) (c : Nat), V = .slice A (pjR z k).2.length c ∧ I = .int .i64 k ∧ k ≤ n ∧ Hid (NW w wr w1.heap.size #[.slice (some ⟨bS, oS, none⟩) n cS, .slice (some ⟨bT, oT, none⟩) n cT] #[.slice none 0 0, .slice none 0 0] n (pjR z k).1 (.slice A (pjR z k).2.length c) (pjR z k).2)) (fun _ I _ _ => n - (intOf I).toNat)
  case atStart => exact ⟨0, _, _, rfl, rfl, Nat.zero_le _, HV0.out⟩
  case round =>
    clear HV0
    obtain ⟨k, A, c, rfl, rfl, hk, HV⟩ := hrel
    have hlen := pjR_len z k
    by_cases hlt : k < n
    · have hki : (k : Int) < (n : Int) := by omega
      have h1 := HG.out.lt k hlt
      have h2 := HG.out.lt _ h1
      rw [HZi.out] at h2
      have u1 := fun N => (show (wr.drewN N).cell? ⟨w.heap.size, 0, none⟩ = _ from (two_of_block HV.out.x).1.1)
      have u0 : wr.cell? ⟨w.heap.size, 0, none⟩ = _ := (two_of_block HV.out.x).1.1
      have c1 := fun N => (show (wr.drewN N).cell? ⟨bS, oS + k, none⟩ = some (.int .i64 (g k : Nat)) from (HV.out.bel.cell (p := ⟨bS, oS + k, none⟩) HS.out.1).trans (HS.out.2 k hlt))
      have c2 := fun N => (show (wr.drewN N).cell? ⟨bS, oS + g k, none⟩ = some (.int .i64 (g (g k) : Nat)) from (HV.out.bel.cell (p := ⟨bS, oS + g k, none⟩) HS.out.1).trans (HS.out.2 _ h1))
      rw [HZi.out] at c2
      have HO := Lib.hid (fun h => pjR_old (z := z) (k := k) h)
      have HN := Lib.hid (fun h => pjR_new (z := z) (k := k) h)
      have hzk := Lib.hid (show z k = z k from rfl)
      generalize hNe : (pjR z k).1 = N at *
      have HNe := Lib.hid hNe
      clear hNe
      generalize hLe : (pjR z k).2 = L at *
      have HLe := Lib.hid hLe
      clear hLe
      generalize hgk : g k = gk at *
      generalize hzk' : z k = zk at *
      clear hgk hzk' hzk
      have i1 : (gk : Int) < (n : Int) := by omega
      have i2 : (zk : Int) < (n : Int) := by omega
      have n1 := fun M => (show (wr.drewN M).cell? ⟨w1.heap.size, zk, none⟩ = _ from HV.out.row.cell (i := zk) h2)
      have n2 := fun M => (show (wr.drewN M).cell? ⟨w1.heap.size, k, none⟩ = _ from HV.out.row.cell (i := k) hlt)
      have nf := fun M j => (show (wr.drewN M).frozen? ⟨w1.heap.size, j, none⟩ = false from HV.out.row.frozen j)
      by_cases hz : k < zk
      · have hzi : (k : Int) < (zk : Int) := by omega
        have HN' := Lib.hid (HN.out hz)
        have H2 := fun M => Lib.hid (((HV.out.drewN M).set k L.length).set zk L.length)
        have hown : ∀ M, (((wr.drewN M).setCell ⟨w1.heap.size, k, none⟩ (.int .i64 (L.length : Nat))).setCell ⟨w1.heap.size, zk, none⟩ (.int .i64 (L.length : Nat))).ownsRow w.heap.size 3 1 (.slice A L.length c) L.length (zs (iz L)) := fun M => (H2 M).out.own
        have n3 := fun M => ((HV.out.drewN M).set k L.length).row.cell (i := zk) h2
        have nf3 := fun M j => ((HV.out.drewN M).set k L.length).row.frozen j
        have hwz := HV.out.bel.size
        go_wp2
        go_quiet (fail)
        go_wp2_with (first
          | (at_builtin; (refine wpList_append_own_at _ rfl _ _ 22 rfl w.heap.size 3 i0 (.int .i64 0) 1 8 Try.underlying22 hi0 z0 z1 z2 rfl (by decide) _ _ _ rfl ((hown _).alloc _) ⟨wr.heap.size, 0, none⟩ 1 1 [.int .i64 (k : Nat)] rfl rfl (cell_one_new2 _ _ _ (by simp)) (fun x hx => by simp at hx; rw [hx]; rfl) (by unfold maxLen; omega) (by omega) (by simp; omega) ?_); intro v' w4 hown4 hg4 hnil4 hat4; obtain ⟨A2, c2, rfl⟩ := own_len hown4; have HN4 := Lib.hid ((H2 _).out.push hown4 hg4 hat4); clear hown4 hg4 hnil4 hat4)
          | fail)
        go_roundw
        case rel => exact ⟨k + 1, A2, c2, by rw [HN'.out, List.length_append]; rfl, by go_num, hlt, by rw [HN'.out, List.length_append]; exact HN4.out⟩
        case measure => simp [intOf]; omega
      · have hzi : ¬ (k : Int) < (zk : Int) := by omega
        have HO' := Lib.hid (HO.out hz)
        go_wp2
        go_quiet (fail)
        go_wp2
        go_roundw
        case rel => exact ⟨k + 1, A, c, by rw [HO'.out, HLe.out], by go_num, hlt, by rw [HO'.out, HLe.out, HNe.out]; exact HV.out.drewN _⟩
        case measure => simp [intOf]; omega
    · obtain rfl : n = k := by omega
      have hk2 : ¬ (n : Int) < (n : Int) := by omega
      generalize hNe9 : (pjR z n).1 = N at *
      generalize hLe9 : (pjR z n).2 = L at *
      clear hNe9 hLe9
      obtain ⟨l, hle⟩ : ∃ l : Nat → Nat, l = fun i => L.getD i 0 := ⟨_, rfl⟩
      have ES2 : Hid (pS g n = (List.range L.length).map fun i => N (g (l i))) := by rw [hle]; exact ES.out
      have ET2 : Hid (pT g f n = (List.range L.length).map fun i => N (f (l i))) := by rw [hle]; exact ET.out
      have HLm : Hid (∀ i, i < L.length → l i < n) := fun i hi => by rw [hle]; exact HLm0.out _ (getD_mem hi)
      have HLc0 : Hid (∀ j, j < L.length → ∃ gl, A = some ⟨gl, 0, none⟩ ∧ gl < wr.heap.size ∧ wr.cell? ⟨gl, j, none⟩ = some (.int .i64 (l j : Nat))) := fun j hj => by
        obtain ⟨gl, h1, h2⟩ := own_rdn HV.out.own rfl (by omega)
        refine ⟨gl, h1, h2.1, ?_⟩
        have h3 := h2.2 j hj
        rw [Nat.zero_add] at h3
        rw [h3, hle]
      clear hle ES ET HLm0
      obtain ⟨W, hW⟩ : ∃ W, W = wr := ⟨_, rfl⟩
      rw [← hW] at HV HLc0 ⊢
      clear hW
      have HQ0 := Lib.hid (qv_start W)
      have hbz := HV.out.bel.size
      have u0 := (two_of_block HV.out.x).1.1
      go_wp2
      go_loopw [8] (fun I wr => ∃ (q : Nat) (vS vT : Value), I = .int .i64 q ∧ q ≤ L.length ∧ Hid (QV W wr vS vT (((List.range q)).map fun i => N (g (l i))) (((List.range q)).map fun i => N (f (l i))))) (fun I _ => L.length - (intOf I).toNat)
      case atStart => exact ⟨0, _, _, rfl, Nat.zero_le _, HQ0.out⟩
      case round =>
        clear HQ0
        obtain ⟨q, vS, vT, rfl, hq, HQ⟩ := hrel
        by_cases hql : q < L.length
        · have hqi : (q : Int) < (L.length : Int) := by omega
          obtain ⟨gl, rfl, hgl, hlc⟩ := HLc0.out q hql
          have HTk1 : Hid ((List.range (q + 1)).map (fun i => N (g (l i))) = (List.range q).map (fun i => N (g (l i))) ++ [N (g (l q))]) := by show _ = _; rw [List.range_succ, List.map_append]; rfl
          have HTk2 : Hid ((List.range (q + 1)).map (fun i => N (f (l i))) = (List.range q).map (fun i => N (f (l i))) ++ [N (f (l q))]) := by show _ = _; rw [List.range_succ, List.map_append]; rfl
          have hin : l q < n := HLm.out _ hql
          have hPl : ((List.range q).map fun i => N (g (l i))).length = q := by rw [List.length_map, List.length_range]
          have hPl2 : ((List.range q).map fun i => N (f (l i))).length = q := by rw [List.length_map, List.length_range]
          have hlen2 : L.length ≤ 1152 := by omega
          generalize hPS : (List.range q).map (fun i => N (g (l i))) = PS at *
          generalize hPT : (List.range q).map (fun i => N (f (l i))) = PT at *
          clear hPS hPT
          generalize l q = i at *
          have hgi := HG.out.lt i hin
          have hfi := HF.out.lt i hin
          have hini : (i : Int) < (n : Int) := by omega
          have hPS1 : PS.length ≤ 1152 := by omega
          have hPT1 : PT.length ≤ 1152 := by omega
          clear hPl hPl2 hlen2
          have HHd0 : Hid (∀ {w' : World} {vS vT : Value} {P P' : List Nat}, QV W w' vS vT P P' → (w'.cell? ⟨W.heap.size, 0, none⟩ = some vS ∧ w'.cell? ⟨w.heap.size, 0, none⟩ = some (.slice (some ⟨bS, oS, none⟩) n cS)) ∧ w'.cell? ⟨bS, oS + i, none⟩ = some (.int .i64 (g i : Nat)) ∧ w'.cell? ⟨w1.heap.size, g i, none⟩ = some (.int .i64 (N (g i) : Nat)) ∧ w'.cell? ⟨gl, q, none⟩ = some (.int .i64 (i : Nat))) := fun h =>
            ⟨⟨(two_of_block h.p).1.1, (h.bel.cell (p := ⟨w.heap.size, 0, none⟩) (lt_of_block HV.out.x)).trans (two_of_block HV.out.x).1.1⟩, ((HV.out.bel.trans (h.bel.mono hbz)).cell (p := ⟨bS, oS + i, none⟩) HS.out.1).trans (HS.out.2 i hin), (h.bel.cell (p := ⟨w1.heap.size, g i, none⟩) HV.out.row.lt).trans (HV.out.row.cell (i := g i) hgi), (h.bel.cell (p := ⟨gl, q, none⟩) hgl).trans hlc⟩
          have HHd1 : Hid (∀ {w' : World} {vS vT : Value} {P P' : List Nat}, QV W w' vS vT P P' → (w'.cell? ⟨W.heap.size, 1, none⟩ = some vT ∧ w'.cell? ⟨w.heap.size, 1, none⟩ = some (.slice (some ⟨bT, oT, none⟩) n cT)) ∧ w'.cell? ⟨bT, oT + i, none⟩ = some (.int .i64 (f i : Nat)) ∧ w'.cell? ⟨w1.heap.size, f i, none⟩ = some (.int .i64 (N (f i) : Nat)) ∧ w'.cell? ⟨gl, q, none⟩ = some (.int .i64 (i : Nat))) := fun h =>
            ⟨⟨(two_of_block h.p).1.2, (h.bel.cell (p := ⟨w.heap.size, 1, none⟩) (lt_of_block HV.out.x)).trans (two_of_block HV.out.x).1.2⟩, ((HV.out.bel.trans (h.bel.mono hbz)).cell (p := ⟨bT, oT + i, none⟩) HT.out.1).trans (HT.out.2 i hin), (h.bel.cell (p := ⟨w1.heap.size, f i, none⟩) HV.out.row.lt).trans (HV.out.row.cell (i := f i) hfi), (h.bel.cell (p := ⟨gl, q, none⟩) hgl).trans hlc⟩
          generalize g i = gi at *
          generalize f i = fi at *
          generalize N gi = ng at *
          generalize N fi = nf at *
          have hgii : (gi : Int) < (n : Int) := by omega
          have hfii : (fi : Int) < (n : Int) := by omega
          have HQa := Lib.hid HQ.out.drew
          go_upto_region 16 with fail
          go_cut [8] (fun s9 wx => s9 = .int .i64 (q : Nat) ∧ ∃ vS', Hid (QV W wx vS' vT (PS ++ [ng]) PT))
          case first =>
            obtain ⟨wd0, hwd0⟩ : ∃ wd0, wd0 = wr.drew := ⟨_, rfl⟩
            have HQd : Hid (QV W wd0 vS vT PS PT) := by rw [hwd0]; exact HQa.out
            refine region_E 14 (fun w' => (w'.cell? ⟨W.heap.size, 0, none⟩ = some vS ∧ w'.cell? ⟨w.heap.size, 0, none⟩ = some (.slice (some ⟨bS, oS, none⟩) n cS)) ∧ w'.cell? ⟨bS, oS + i, none⟩ = some (.int .i64 (gi : Nat)) ∧ w'.cell? ⟨w1.heap.size, gi, none⟩ = some (.int .i64 (ng : Nat)) ∧ w'.cell? ⟨gl, q, none⟩ = some (.int .i64 (i : Nat))) (by kernel_rfl) ?_
            rw [← hwd0]
            clear hwd0
            have hHeld := HHd0.out HQd.out
            refine take_E (n := 14) (i := 0) (v := ?va_0) rfl (by kernel_rfl) (fun _ _ _ h => h) ?hya_0 (by rfl) hHeld ?resta_0
            case hya_0 => (intro w9 hSw; (try dsimp only at hSw); go_simp <;> with_reducible rfl)
            (try simp only [List.getElem_toArray, List.getElem_cons_zero, List.getElem_cons_succ, Act.put, List.setIfInBounds_toArray, List.set_cons_zero, List.set_cons_succ])
            refine take_E (n := 14) (i := 1) (v := ?va_1) rfl (by kernel_rfl) (fun _ _ _ h => h) ?hya_1 (by rfl) hHeld ?resta_1
            case hya_1 => (intro w9 hSw; (try dsimp only at hSw); go_simp <;> with_reducible rfl)
            (try simp only [List.getElem_toArray, List.getElem_cons_zero, List.getElem_cons_succ, Act.put, List.setIfInBounds_toArray, List.set_cons_zero, List.set_cons_succ])
            refine take_E (n := 14) (i := 2) (v := ?va_2) rfl (by kernel_rfl) (fun _ _ _ h => h) ?hya_2 (by rfl) hHeld ?resta_2
            case hya_2 => (intro w9 hSw; (try dsimp only at hSw); go_simp <;> with_reducible rfl)
            (try simp only [List.getElem_toArray, List.getElem_cons_zero, List.getElem_cons_succ, Act.put, List.setIfInBounds_toArray, List.set_cons_zero, List.set_cons_succ])
            refine take_E (n := 14) (i := 3) (v := ?va_3) rfl (by kernel_rfl) (fun _ _ _ h => h) ?hya_3 (by rfl) hHeld ?resta_3
            case hya_3 => (intro w9 hSw; (try dsimp only at hSw); go_simp <;> with_reducible rfl)
            (try simp only [List.getElem_toArray, List.getElem_cons_zero, List.getElem_cons_succ, Act.put, List.setIfInBounds_toArray, List.set_cons_zero, List.set_cons_succ])
            refine take_E (n := 14) (i := 4) (v := ?va_4) rfl (by kernel_rfl) (fun _ _ _ h => h) ?hya_4 (by rfl) hHeld ?resta_4
            case hya_4 => (intro w9 hSw; (try dsimp only at hSw); go_simp <;> with_reducible rfl)
            (try simp only [List.getElem_toArray, List.getElem_cons_zero, List.getElem_cons_succ, Act.put, List.setIfInBounds_toArray, List.set_cons_zero, List.set_cons_succ])
            refine take_E (n := 14) (i := 5) (v := ?va_5) rfl (by kernel_rfl) (fun _ _ _ h => h) ?hya_5 (by rfl) hHeld ?resta_5
            case hya_5 => (intro w9 hSw; (try dsimp only at hSw); go_simp <;> with_reducible rfl)
            (try simp only [List.getElem_toArray, List.getElem_cons_zero, List.getElem_cons_succ, Act.put, List.setIfInBounds_toArray, List.set_cons_zero, List.set_cons_succ])
            refine take_E (n := 14) (i := 6) (v := ?va_6) rfl (by kernel_rfl) (fun _ _ _ h => h) ?hya_6 (by rfl) hHeld ?resta_6
            case hya_6 => (intro w9 hSw; (try dsimp only at hSw); go_simp <;> with_reducible rfl)
            (try simp only [List.getElem_toArray, List.getElem_cons_zero, List.getElem_cons_succ, Act.put, List.setIfInBounds_toArray, List.set_cons_zero, List.set_cons_succ])
            refine take_E (n := 14) (i := 7) (v := ?va_7) rfl (by kernel_rfl) (fun _ _ _ h => h) ?hya_7 (by rfl) hHeld ?resta_7
            case hya_7 => (intro w9 hSw; (try dsimp only at hSw); go_simp <;> with_reducible rfl)
            (try simp only [List.getElem_toArray, List.getElem_cons_zero, List.getElem_cons_succ, Act.put, List.setIfInBounds_toArray, List.set_cons_zero, List.set_cons_succ])
            refine take_E (n := 14) (i := 8) (v := ?va_8) rfl (by kernel_rfl) (fun _ _ _ h => h) ?hya_8 (by rfl) hHeld ?resta_8
            case hya_8 => (intro w9 hSw; (try dsimp only at hSw); go_simp <;> with_reducible rfl)
            (try simp only [List.getElem_toArray, List.getElem_cons_zero, List.getElem_cons_succ, Act.put, List.setIfInBounds_toArray, List.set_cons_zero, List.set_cons_succ])
            refine take_E (n := 14) (i := 9) (v := ?va_9) rfl (by kernel_rfl) (fun _ _ _ h => h) ?hya_9 (by rfl) hHeld ?resta_9
            case hya_9 => (intro w9 hSw; (try dsimp only at hSw); go_simp <;> with_reducible rfl)
            (try simp only [List.getElem_toArray, List.getElem_cons_zero, List.getElem_cons_succ, Act.put, List.setIfInBounds_toArray, List.set_cons_zero, List.set_cons_succ])
            refine take_E (n := 14) (i := 10) (v := ?va_10) rfl (by kernel_rfl) (fun _ _ _ h => h) ?hya_10 (by rfl) hHeld ?resta_10
            case hya_10 => (intro w9 hSw; (try dsimp only at hSw); go_simp <;> with_reducible rfl)
            (try simp only [List.getElem_toArray, List.getElem_cons_zero, List.getElem_cons_succ, Act.put, List.setIfInBounds_toArray, List.set_cons_zero, List.set_cons_succ])
            refine take_E (n := 14) (i := 11) (v := ?va_11) rfl (by kernel_rfl) (fun _ _ _ h => h) ?hya_11 (by rfl) hHeld ?resta_11
            case hya_11 => (intro w9 hSw; (try dsimp only at hSw); go_simp <;> with_reducible rfl)
            (try simp only [List.getElem_toArray, List.getElem_cons_zero, List.getElem_cons_succ, Act.put, List.setIfInBounds_toArray, List.set_cons_zero, List.set_cons_succ])
            refine take_E (n := 14) (i := 12) (v := ?va_12) rfl (by kernel_rfl) (fun _ _ _ h => h) ?hya_12 (by rfl) hHeld ?resta_12
            case hya_12 => (intro w9 hSw; (try dsimp only at hSw); go_simp <;> with_reducible rfl)
            (try simp only [List.getElem_toArray, List.getElem_cons_zero, List.getElem_cons_succ, Act.put, List.setIfInBounds_toArray, List.set_cons_zero, List.set_cons_succ])
            refine one_E (n := 14) (i := 13) (by kernel_rfl) rfl (fun K hK => ?_)
            go_simp
            refine hK.out _ _ (fun _ => HHd0.out (HQd.out.alloc _)) (fun hHeld13 => ?_)
            clear hK K
            (try simp only [List.getElem_toArray, List.getElem_cons_zero, List.getElem_cons_succ, Act.put, List.setIfInBounds_toArray, List.set_cons_zero, List.set_cons_succ])
            refine one_E (n := 14) (i := 14) (by kernel_rfl) rfl (fun K hK => ?_)
            refine step_append_lies _ (by rfl) _ _ _ (by rfl) (W.heap.size + 1) 3 i0 _ 1 8 Try.underlying22 hi0 z0 z1 z2 rfl (by omega) vS PS.length (zs (iz PS)) (by rfl) (HQd.out.alloc _).rS ⟨wd0.heap.size, 0, none⟩ 1 1 [.int .i64 (ng : Nat)] (by rfl) (by rfl) (World.news_of_block (cs := #[.int .i64 (ng : Nat)]) (t := 3) (fr := (0, 0)) (heap_alloc_new wd0 _)) (by simp [Value.oneCell']) (by omega) (by unfold maxLen; omega) (by omega) (by have := lt_of_block HQd.out.p; simp; omega) (wd0.heap.size + 1) (by simp) ?_
            intro gg cap' p2 hown2 hgrow hat hlt3
            obtain ⟨hpb, hq9⟩ := (HQd.out.alloc _).pushS hown2 hgrow (by simpa using hat)
            have HQb := Lib.hid hq9
            have fz := (two_of_block hpb).2
            have qz := (two_of_block hpb).1
            clear hown2 hgrow hat hq9
            refine hK.out _ _ (fun h => absurd h (by decide)) (fun hHeld14 => ?_)
            clear hK K
            (try simp only [List.getElem_toArray, List.getElem_cons_zero, List.getElem_cons_succ, Act.put, List.setIfInBounds_toArray, List.set_cons_zero, List.set_cons_succ])
            refine one_E (n := 14) (i := 15) (by kernel_rfl) rfl (fun K hK => ?_)
            go_simp
            refine hK.out _ _ (fun h => absurd h (by decide)) (fun hHeld15 => ?_)
            clear hK K
            (try simp only [List.getElem_toArray, List.getElem_cons_zero, List.getElem_cons_succ, Act.put, List.setIfInBounds_toArray, List.set_cons_zero, List.set_cons_succ])
            refine one_E (n := 14) (i := 16) (by kernel_rfl) rfl (fun K hK => ?_)
            go_simp
            refine hK.out _ _ (fun h => absurd h (by decide)) (fun hHeld16 => ?_)
            clear hK K
            (try simp only [List.getElem_toArray, List.getElem_cons_zero, List.getElem_cons_succ, Act.put, List.setIfInBounds_toArray, List.set_cons_zero, List.set_cons_succ])
            refine done_E (by kernel_rfl) ?_ _
            go_wp2_with fail
            go_meet
            exact ⟨rfl, _, HQb⟩
          case rest =>
            obtain ⟨rfl, vS', HQ1⟩ := hcut
            clear HQa HQ
            go_wp2
            have HQe := Lib.hid HQ1.drew
            obtain ⟨wd1, hwd1⟩ : ∃ wd1, wd1 = wc.drew := ⟨_, rfl⟩
            have HQf : Hid (QV W wd1 vS' vT (PS ++ [ng]) PT) := by rw [hwd1]; exact HQe.out
            refine region_E 14 (fun w' => (w'.cell? ⟨W.heap.size, 1, none⟩ = some vT ∧ w'.cell? ⟨w.heap.size, 1, none⟩ = some (.slice (some ⟨bT, oT, none⟩) n cT)) ∧ w'.cell? ⟨bT, oT + i, none⟩ = some (.int .i64 (fi : Nat)) ∧ w'.cell? ⟨w1.heap.size, fi, none⟩ = some (.int .i64 (nf : Nat)) ∧ w'.cell? ⟨gl, q, none⟩ = some (.int .i64 (i : Nat))) (by kernel_rfl) ?_
            rw [← hwd1]
            clear hwd1
            have hHeld := HHd1.out HQf.out
            refine take_E (n := 14) (i := 0) (v := ?vb_0) rfl (by kernel_rfl) (fun _ _ _ h => h) ?hyb_0 (by rfl) hHeld ?restb_0
            case hyb_0 => (intro w9 hSw; (try dsimp only at hSw); go_simp <;> with_reducible rfl)
            (try simp only [List.getElem_toArray, List.getElem_cons_zero, List.getElem_cons_succ, Act.put, List.setIfInBounds_toArray, List.set_cons_zero, List.set_cons_succ])
            refine take_E (n := 14) (i := 1) (v := ?vb_1) rfl (by kernel_rfl) (fun _ _ _ h => h) ?hyb_1 (by rfl) hHeld ?restb_1
            case hyb_1 => (intro w9 hSw; (try dsimp only at hSw); go_simp <;> with_reducible rfl)
            (try simp only [List.getElem_toArray, List.getElem_cons_zero, List.getElem_cons_succ, Act.put, List.setIfInBounds_toArray, List.set_cons_zero, List.set_cons_succ])
            refine take_E (n := 14) (i := 2) (v := ?vb_2) rfl (by kernel_rfl) (fun _ _ _ h => h) ?hyb_2 (by rfl) hHeld ?restb_2
            case hyb_2 => (intro w9 hSw; (try dsimp only at hSw); go_simp <;> with_reducible rfl)
            (try simp only [List.getElem_toArray, List.getElem_cons_zero, List.getElem_cons_succ, Act.put, List.setIfInBounds_toArray, List.set_cons_zero, List.set_cons_succ])
            refine take_E (n := 14) (i := 3) (v := ?vb_3) rfl (by kernel_rfl) (fun _ _ _ h => h) ?hyb_3 (by rfl) hHeld ?restb_3
            case hyb_3 => (intro w9 hSw; (try dsimp only at hSw); go_simp <;> with_reducible rfl)
            (try simp only [List.getElem_toArray, List.getElem_cons_zero, List.getElem_cons_succ, Act.put, List.setIfInBounds_toArray, List.set_cons_zero, List.set_cons_succ])
            refine take_E (n := 14) (i := 4) (v := ?vb_4) rfl (by kernel_rfl) (fun _ _ _ h => h) ?hyb_4 (by rfl) hHeld ?restb_4
            case hyb_4 => (intro w9 hSw; (try dsimp only at hSw); go_simp <;> with_reducible rfl)
            (try simp only [List.getElem_toArray, List.getElem_cons_zero, List.getElem_cons_succ, Act.put, List.setIfInBounds_toArray, List.set_cons_zero, List.set_cons_succ])
            refine take_E (n := 14) (i := 5) (v := ?vb_5) rfl (by kernel_rfl) (fun _ _ _ h => h) ?hyb_5 (by rfl) hHeld ?restb_5
            case hyb_5 => (intro w9 hSw; (try dsimp only at hSw); go_simp <;> with_reducible rfl)
            (try simp only [List.getElem_toArray, List.getElem_cons_zero, List.getElem_cons_succ, Act.put, List.setIfInBounds_toArray, List.set_cons_zero, List.set_cons_succ])
            refine take_E (n := 14) (i := 6) (v := ?vb_6) rfl (by kernel_rfl) (fun _ _ _ h => h) ?hyb_6 (by rfl) hHeld ?restb_6
            case hyb_6 => (intro w9 hSw; (try dsimp only at hSw); go_simp <;> with_reducible rfl)
            (try simp only [List.getElem_toArray, List.getElem_cons_zero, List.getElem_cons_succ, Act.put, List.setIfInBounds_toArray, List.set_cons_zero, List.set_cons_succ])
            refine take_E (n := 14) (i := 7) (v := ?vb_7) rfl (by kernel_rfl) (fun _ _ _ h => h) ?hyb_7 (by rfl) hHeld ?restb_7
            case hyb_7 => (intro w9 hSw; (try dsimp only at hSw); go_simp <;> with_reducible rfl)
            (try simp only [List.getElem_toArray, List.getElem_cons_zero, List.getElem_cons_succ, Act.put, List.setIfInBounds_toArray, List.set_cons_zero, List.set_cons_succ])
            refine take_E (n := 14) (i := 8) (v := ?vb_8) rfl (by kernel_rfl) (fun _ _ _ h => h) ?hyb_8 (by rfl) hHeld ?restb_8
            case hyb_8 => (intro w9 hSw; (try dsimp only at hSw); go_simp <;> with_reducible rfl)
            (try simp only [List.getElem_toArray, List.getElem_cons_zero, List.getElem_cons_succ, Act.put, List.setIfInBounds_toArray, List.set_cons_zero, List.set_cons_succ])
            refine take_E (n := 14) (i := 9) (v := ?vb_9) rfl (by kernel_rfl) (fun _ _ _ h => h) ?hyb_9 (by rfl) hHeld ?restb_9
            case hyb_9 => (intro w9 hSw; (try dsimp only at hSw); go_simp <;> with_reducible rfl)
            (try simp only [List.getElem_toArray, List.getElem_cons_zero, List.getElem_cons_succ, Act.put, List.setIfInBounds_toArray, List.set_cons_zero, List.set_cons_succ])
            refine take_E (n := 14) (i := 10) (v := ?vb_10) rfl (by kernel_rfl) (fun _ _ _ h => h) ?hyb_10 (by rfl) hHeld ?restb_10
            case hyb_10 => (intro w9 hSw; (try dsimp only at hSw); go_simp <;> with_reducible rfl)
            (try simp only [List.getElem_toArray, List.getElem_cons_zero, List.getElem_cons_succ, Act.put, List.setIfInBounds_toArray, List.set_cons_zero, List.set_cons_succ])
            refine take_E (n := 14) (i := 11) (v := ?vb_11) rfl (by kernel_rfl) (fun _ _ _ h => h) ?hyb_11 (by rfl) hHeld ?restb_11
            case hyb_11 => (intro w9 hSw; (try dsimp only at hSw); go_simp <;> with_reducible rfl)
            (try simp only [List.getElem_toArray, List.getElem_cons_zero, List.getElem_cons_succ, Act.put, List.setIfInBounds_toArray, List.set_cons_zero, List.set_cons_succ])
            refine take_E (n := 14) (i := 12) (v := ?vb_12) rfl (by kernel_rfl) (fun _ _ _ h => h) ?hyb_12 (by rfl) hHeld ?restb_12
            case hyb_12 => (intro w9 hSw; (try dsimp only at hSw); go_simp <;> with_reducible rfl)
            (try simp only [List.getElem_toArray, List.getElem_cons_zero, List.getElem_cons_succ, Act.put, List.setIfInBounds_toArray, List.set_cons_zero, List.set_cons_succ])
            refine one_E (n := 14) (i := 13) (by kernel_rfl) rfl (fun K hK => ?_)
            go_simp
            refine hK.out _ _ (fun _ => HHd1.out (HQf.out.alloc _)) (fun hHeld13 => ?_)
            clear hK K
            (try simp only [List.getElem_toArray, List.getElem_cons_zero, List.getElem_cons_succ, Act.put, List.setIfInBounds_toArray, List.set_cons_zero, List.set_cons_succ])
            refine one_E (n := 14) (i := 14) (by kernel_rfl) rfl (fun K hK => ?_)
            refine step_append_lies _ (by rfl) _ _ _ (by rfl) (W.heap.size + 1) 3 i0 _ 1 8 Try.underlying22 hi0 z0 z1 z2 rfl (by omega) vT PT.length (zs (iz PT)) (by rfl) (HQf.out.alloc _).rT ⟨wd1.heap.size, 0, none⟩ 1 1 [.int .i64 (nf : Nat)] (by rfl) (by rfl) (World.news_of_block (cs := #[.int .i64 (nf : Nat)]) (t := 3) (fr := (0, 0)) (heap_alloc_new wd1 _)) (by simp [Value.oneCell']) (by omega) (by unfold maxLen; omega) (by omega) (by have := lt_of_block HQf.out.p; simp; omega) (wd1.heap.size + 1) (by simp) ?_
            intro gg cap' p2 hown2 hgrow hat hlt3
            obtain ⟨hpb, hq9⟩ := (HQf.out.alloc _).pushT hown2 hgrow (by simpa using hat)
            have HQc := Lib.hid hq9
            have fz := (two_of_block hpb).2
            have qz := (two_of_block hpb).1
            clear hown2 hgrow hat hq9
            refine hK.out _ _ (fun h => absurd h (by decide)) (fun hHeld14 => ?_)
            clear hK K
            (try simp only [List.getElem_toArray, List.getElem_cons_zero, List.getElem_cons_succ, Act.put, List.setIfInBounds_toArray, List.set_cons_zero, List.set_cons_succ])
            refine one_E (n := 14) (i := 15) (by kernel_rfl) rfl (fun K hK => ?_)
            go_simp
            refine hK.out _ _ (fun h => absurd h (by decide)) (fun hHeld15 => ?_)
            clear hK K
            (try simp only [List.getElem_toArray, List.getElem_cons_zero, List.getElem_cons_succ, Act.put, List.setIfInBounds_toArray, List.set_cons_zero, List.set_cons_succ])
            refine one_E (n := 14) (i := 16) (by kernel_rfl) rfl (fun K hK => ?_)
            go_simp
            refine hK.out _ _ (fun h => absurd h (by decide)) (fun hHeld16 => ?_)
            clear hK K
            (try simp only [List.getElem_toArray, List.getElem_cons_zero, List.getElem_cons_succ, Act.put, List.setIfInBounds_toArray, List.set_cons_zero, List.set_cons_succ])
            refine done_E (by kernel_rfl) ?_ _
            go_wp2
            go_roundw
            case rel => exact ⟨q + 1, _, _, by go_num, hql, by rw [HTk1.out, HTk2.out]; exact HQc.out⟩
            case measure => simp [intOf]; omega
        · obtain rfl : q = L.length := by omega
          have hq2 : ¬ (L.length : Int) < (L.length : Int) := by omega
          obtain ⟨A1, c1, rfl⟩ := own_len HQ.out.rS
          obtain ⟨A2, c2, rfl⟩ := own_len HQ.out.rT
          have HSr := Lib.hid HQ.out.rS
          have HTr := Lib.hid HQ.out.rT
          have HPx := Lib.hid HQ.out.p
          rw [List.length_map, List.length_range] at HSr HTr HPx
          rw [List.length_map, List.length_range] at HPx
          have HRx : Hid (wr.heap[w.heap.size + 1]? = some (.cells #[.slice none 0 0, .slice none 0 0] 24 (0, 0))) := (HQ.out.bel.block _ (lt_of_block HV.out.r)).trans HV.out.r
          have HBx := Lib.hid (HV.out.bel.trans (HQ.out.bel.mono hbz))
          have hlr := lt_of_block HV.out.r
          obtain ⟨⟨p1, p2⟩, pf⟩ := two_of_block HPx.out
          obtain ⟨⟨r1, r2⟩, rf⟩ := two_of_block HRx.out
          have hzz := lt_of_block HRx.out
          clear HQ
          go_wp2
          have hrl := two_set1 (two_set0 HRx.out (.slice A1 L.length c1)) (.slice A2 L.length c2)
          obtain ⟨⟨s1, s2⟩, _⟩ := two_of_block hrl
          refine bodyPost_ret (v := .agg #[.slice A1 L.length c1, .slice A2 L.length c2]) ?_ rfl (rp_fin (B := w.heap.size) (own_base (B := W.heap.size + 1) (by omega) (own_set (own_set HSr.out (by omega) _) (by omega) _)) (own_base (B := W.heap.size + 1) (by omega) (own_set (own_set HTr.out (by omega) _) (by omega) _)) ES2.out ET2.out (by simp) (by simp) ((HBx.out.setCell (by show _ ≤ w.heap.size + 1; omega) _).setCell (by show _ ≤ w.heap.size + 1; omega) _))
          · simp [results, Try.results30, go_sem, s1, s2]
end Go.Proofs.Ytmikhkolbkdnpaa
