/- The contracts of checkPoint and Base. -/
import Derived.Test.YtmikhkolbkdnpaaEuN
import Derived.Test.YtmikhkolbkdnpaaPPjL
import Derived.Laws.MakeOwn
import Derived.Deep.DeepCutAuto
import Derived.Deep.CutBlock
import Derived.Deep.RegionHeld3
import Derived.IntWalk
import Derived.Deep.AppendLies
namespace Go.Proofs.Ytmikhkolbkdnpaa
open Go.RowKit
set_option linter.unusedVariables false
set_option linter.unusedSimpArgs false

set_option maxHeartbeats 3200000 in
set_option maxRecDepth 1000000 in
theorem ckpoint_any {S T : List Int} {B bS oS bT oT cS cT : Nat} (w : World) (h : AI w B bS oS bT oT S T cS cT) (i z : Int) (hi : (0 ≤ i ∧ i < S.length ∧ z = 0) ∨ ((i < 0 ∨ (S.length : Int) ≤ i) ∧ z = 2)) :
    Calls Try.prog 37 #[.agg #[.slice (some ⟨bS, oS, none⟩) S.length cS, .slice (some ⟨bT, oT, none⟩) S.length cT], .int .i64 i] w fun e w' => e = .returned (.int .i64 z) ∧ Below w.heap.size w w' := by
  have T0 : Hid ((w.alloc (.cells #[.slice (some ⟨bS, oS, none⟩) S.length cS, .slice (some ⟨bT, oT, none⟩) S.length cT] 24)).heap[w.heap.size]? = some (.cells #[.slice (some ⟨bS, oS, none⟩) S.length cS, .slice (some ⟨bT, oT, none⟩) S.length cT] 24 (0, 0))) := heap_alloc_new w _
  have HB0 : Hid (Below w.heap.size w (w.alloc (.cells #[.slice (some ⟨bS, oS, none⟩) S.length cS, .slice (some ⟨bT, oT, none⟩) S.length cT] 24))) := below1 w _
  have HCk : Hid (∀ W, Below w.heap.size w W → Calls Try.prog 34 #[.agg #[.slice (some ⟨bS, oS, none⟩) S.length cS, .slice (some ⟨bT, oT, none⟩) S.length cT]] W fun e w' => e = .returned (.int .i64 0) ∧ Below W.heap.size W w') := fun W hb => by
    have := pcheck_any W (h.below hb).zs (h.below hb).zt (h.below hb).le
    rwa [chkA_ok h.act, h.act.len] at this
  have HH := Lib.hid hi
  clear h hi
  go_enter Try.func37, Try.ntmps37
  go_wp2_with (first
    | (go_at_call 34; ((with_reducible refine (HCk.out _ HB0.out).mono ?_); rintro e w1 ⟨rfl, hb⟩; have HB1 := Lib.hid (bel0 HB0.out hb); have T1 := Lib.hid (block_below T0.out hb); obtain ⟨⟨t1, t2⟩, _⟩ := two_of_block T1.out; clear hb; rcases HH.out with ⟨h1, h2, rfl⟩ | ⟨h1 | h1, rfl⟩))
    | fail)
  · have n1 : ¬ i < 0 := by omega
    have n2 : ¬ (S.length : Int) ≤ i := by omega
    go_wp2
    go_ret
    exact ⟨rfl, HB1.out⟩
  · go_wp2
    go_ret
    exact ⟨rfl, HB1.out⟩
  · have n1 : ¬ i < 0 := by omega
    go_wp2
    go_ret
    exact ⟨rfl, HB1.out⟩
set_option maxHeartbeats 3200000 in
set_option maxRecDepth 1000000 in
theorem base_out {S T : List Int} {B bS oS bT oT cS cT : Nat} (w : World) (h : AI w B bS oS bT oT S T cS cT) (i : Int) (hi : i < 0 ∨ (S.length : Int) ≤ i) :
    Calls Try.prog 15 #[.agg #[.slice (some ⟨bS, oS, none⟩) S.length cS, .slice (some ⟨bT, oT, none⟩) S.length cT], .int .i64 i] w fun e w' => e = .returned (.tuple #[.agg #[.slice none 0 0, .slice none 0 0], .int .i64 2]) ∧ Below w.heap.size w w' := by
  have HCp := Lib.hid (fun W (hb : Below w.heap.size w W) => ckpoint_any W (h.below hb) i 2 (.inr ⟨hi, rfl⟩))
  clear h hi
  generalize S.length = n at *
  have T0 : Hid (((w.alloc (.cells #[.slice (some ⟨bS, oS, none⟩) n cS, .slice (some ⟨bT, oT, none⟩) n cT] 24)).alloc (.cells #[.slice none 0 0, .slice none 0 0] 24)).heap[w.heap.size]? = some (.cells #[.slice (some ⟨bS, oS, none⟩) n cS, .slice (some ⟨bT, oT, none⟩) n cT] 24 (0, 0))) := block_alloc (heap_alloc_new w _) _
  have hr0 := heap_alloc_new (w.alloc (.cells #[.slice (some ⟨bS, oS, none⟩) n cS, .slice (some ⟨bT, oT, none⟩) n cT] 24)) (.cells #[.slice none 0 0, .slice none 0 0] 24)
  rw [show (w.alloc (.cells #[.slice (some ⟨bS, oS, none⟩) n cS, .slice (some ⟨bT, oT, none⟩) n cT] 24)).heap.size = w.heap.size + 1 by simp] at hr0
  have R0 := Lib.hid hr0
  have HB0 : Hid (Below w.heap.size w ((w.alloc (.cells #[.slice (some ⟨bS, oS, none⟩) n cS, .slice (some ⟨bT, oT, none⟩) n cT] 24)).alloc (.cells #[.slice none 0 0, .slice none 0 0] 24))) := below2 w _ _
  clear hr0
  go_enter Try.func15, Try.ntmps15
  go_wp2_with (first
    | (go_at_call 37; ((with_reducible refine (HCp.out _ HB0.out).mono ?_); rintro e w1 ⟨rfl, hb⟩; have HB1 := Lib.hid (bel0 HB0.out hb); have R1 := Lib.hid (block_below R0.out hb); obtain ⟨⟨r1, r2⟩, rf⟩ := two_of_block R1.out; have hz2 := lt_of_block R1.out; clear hb))
    | fail)
  have hrl := two_set1 (two_set0 R1.out (.slice none 0 0)) (.slice none 0 0)
  obtain ⟨⟨s1, s2⟩, _⟩ := two_of_block hrl
  refine bodyPost_ret (v := .tuple #[.agg #[.slice none 0 0, .slice none 0 0], .int .i64 2]) ?_ rfl ⟨rfl, (HB1.out.setCell (by show _ ≤ w.heap.size + 1; omega) _).setCell (by show _ ≤ w.heap.size + 1; omega) _⟩
  simp [results, Try.results15, go_sem, s1, s2]
theorem bp_fin {w w' : World} {B m c1 c2 : Nat} {A1 A2 : Option Addr} {PS PT QS QT : List Nat} (h1 : w'.ownsRow B 3 1 (.slice A1 m c1) m (zs (iz PS))) (h2 : w'.ownsRow B 3 1 (.slice A2 m c2) m (zs (iz PT))) (e1 : QS = PS) (e2 : QT = PT) (l1 : PS.length = m) (l2 : PT.length = m) (hb : Below w.heap.size w w') :
    ∃ A c A' c', Ending.returned (.tuple #[.agg #[.slice A1 m c1, .slice A2 m c2], .int .i64 0]) = .returned (.tuple #[.agg #[.slice A m c, .slice A' m c'], .int .i64 0]) ∧ RdZ w' w'.heap.size A c (iz QS) ∧ RdZ w' w'.heap.size A' c' (iz QT) ∧ Below w.heap.size w w' := by
  obtain ⟨A, c, A', c', e, h3, h4, h5⟩ := rp_fin h1 h2 e1 e2 l1 l2 hb
  injection e with e
  injection e with e
  have ea : #[Value.slice A1 m c1, .slice A2 m c2] = #[.slice A QS.length c, .slice A' QT.length c'] := e
  simp at ea
  obtain ⟨⟨rfl, _, rfl⟩, rfl, _, rfl⟩ := ea
  exact ⟨A1, c1, A2, c2, rfl, h3, h4, h5⟩
set_option maxHeartbeats 6400000 in
set_option maxRecDepth 1000000 in
theorem base_any {S T : List Int} {B bS oS bT oT cS cT : Nat} (w : World) (h : AI w B bS oS bT oT S T cS cT) (j : Nat) (hj : j < S.length) :
    Calls Try.prog 15 #[.agg #[.slice (some ⟨bS, oS, none⟩) S.length cS, .slice (some ⟨bT, oT, none⟩) S.length cT], .int .i64 (j : Nat)] w fun e w' => ∃ A c A' c', e = .returned (.tuple #[.agg #[.slice A S.length c, .slice A' S.length c'], .int .i64 0]) ∧
      RdZ w' w'.heap.size A c (iz (Go.Proofs.Ytmikhkolbkdnpaa.bS (fnz S) (fnz T) S.length j)) ∧ RdZ w' w'.heap.size A' c' (iz (Go.Proofs.Ytmikhkolbkdnpaa.bT (fnz S) (fnz T) S.length j)) ∧ Below w.heap.size w w' := by
  obtain ⟨i0, hi0, z0, z1, z2⟩ := info_parts Try.infoInt
  have hP := pact_of h.act
  have hn := h.act.le
  have h0 := h.act.pos
  have HCp := Lib.hid (fun W (hb : Below w.heap.size w W) => ckpoint_any W (h.below hb) (j : Nat) 0 (.inl ⟨by omega, by omega, rfl⟩))
  have HSe : Hid (∀ W, Below w.heap.size w W → Calls Try.prog 38 #[.agg #[.slice (some ⟨bS, oS, none⟩) S.length cS, .slice (some ⟨bT, oT, none⟩) S.length cT], .int .i64 (j : Nat)] W fun e w' => ∃ A c, e = .returned (.slice A S.length c) ∧ w'.ownsRow W.heap.size 3 1 (.slice A S.length c) S.length (zs (iz (bst (fnz S) (fnz T) j S.length))) ∧ Below W.heap.size W w') := fun W hb => by
    have := bsearch_any (cS := cS) (cT := cT) W ((h.below hb).s.mono (h.below hb).le) ((h.below hb).t.mono (h.below hb).le) h.act.ps h.act.pt hj hn
    rwa [bst_full hP hj] at this
  have HFl : Hid ((bst (fnz S) (fnz T) j S.length).length = S.length) := bst_full hP hj
  have hmk := fun W => mk_int2 S.length W hn
  have HG : Hid (Prm (fnz S) S.length) := h.act.ps
  have HF : Hid (Prm (fnz T) S.length) := h.act.pt
  have HS := Lib.hid (h.s.mono h.le)
  have HT := Lib.hid (h.t.mono h.le)
  have HLm : Hid (∀ k, k < S.length → ordO (fnz S) (fnz T) S.length j k < S.length) := fun k hk => ord_lt hP hj k hk
  have ES : Hid (Go.Proofs.Ytmikhkolbkdnpaa.bS (fnz S) (fnz T) S.length j = (List.range S.length).map fun i => plN (ordO (fnz S) (fnz T) S.length j) S.length (fnz S (ordO (fnz S) (fnz T) S.length j i))) := rfl
  have ET : Hid (Go.Proofs.Ytmikhkolbkdnpaa.bT (fnz S) (fnz T) S.length j = (List.range S.length).map fun i => plN (ordO (fnz S) (fnz T) S.length j) S.length (fnz T (ordO (fnz S) (fnz T) S.length j i))) := rfl
  have HOr : Hid (∀ k, (bst (fnz S) (fnz T) j S.length).getD k 0 = ordO (fnz S) (fnz T) S.length j k) := fun k => rfl
  clear h hP
  generalize Go.Proofs.Ytmikhkolbkdnpaa.bS (fnz S) (fnz T) S.length j = QS at *
  generalize Go.Proofs.Ytmikhkolbkdnpaa.bT (fnz S) (fnz T) S.length j = QT at *
  generalize ordO (fnz S) (fnz T) S.length j = l at *
  generalize bst (fnz S) (fnz T) j S.length = LL at *
  generalize fnz S = g at *
  generalize fnz T = f at *
  generalize S.length = n at *
  have T0 : Hid (((w.alloc (.cells #[.slice (some ⟨bS, oS, none⟩) n cS, .slice (some ⟨bT, oT, none⟩) n cT] 24)).alloc (.cells #[.slice none 0 0, .slice none 0 0] 24)).heap[w.heap.size]? = some (.cells #[.slice (some ⟨bS, oS, none⟩) n cS, .slice (some ⟨bT, oT, none⟩) n cT] 24 (0, 0))) := block_alloc (heap_alloc_new w _) _
  have hr0 := heap_alloc_new (w.alloc (.cells #[.slice (some ⟨bS, oS, none⟩) n cS, .slice (some ⟨bT, oT, none⟩) n cT] 24)) (.cells #[.slice none 0 0, .slice none 0 0] 24)
  rw [show (w.alloc (.cells #[.slice (some ⟨bS, oS, none⟩) n cS, .slice (some ⟨bT, oT, none⟩) n cT] 24)).heap.size = w.heap.size + 1 by simp] at hr0
  have R0 := Lib.hid hr0
  have HB0 : Hid (Below w.heap.size w ((w.alloc (.cells #[.slice (some ⟨bS, oS, none⟩) n cS, .slice (some ⟨bT, oT, none⟩) n cT] 24)).alloc (.cells #[.slice none 0 0, .slice none 0 0] 24))) := below2 w _ _
  clear hr0
  go_enter Try.func15, Try.ntmps15
  go_wp2_with (first
    | (go_at_call 37; ((with_reducible refine (HCp.out _ HB0.out).mono ?_); rintro e w1 ⟨rfl, hb⟩; have HB1 := Lib.hid (bel0 HB0.out hb); have R1 := Lib.hid (block_below R0.out hb); have T1 := Lib.hid (block_below T0.out hb); obtain ⟨⟨t1, t2⟩, _⟩ := two_of_block T1.out; clear hb))
    | (go_at_call 38; ((with_reducible refine (HSe.out _ HB1.out).mono ?_); rintro e w2 ⟨AL, cL, rfl, ho, hb⟩; have HV0 := Lib.hid (nw_start (n := n) (block_below T1.out hb) (block_below R1.out hb) (bel0 HB1.out hb)); have HO := Lib.hid ho; have hw2 := (bel0 HB1.out hb).size; clear t1 t2 hb ho))
    | fail)
  have HLc : Hid (∀ {W : World}, Below w2.heap.size w2 W → ∀ q, q < n → ∃ gl, AL = some ⟨gl, 0, none⟩ ∧ gl < W.heap.size ∧ W.cell? ⟨gl, q, none⟩ = some (.int .i64 (l q : Nat))) := fun {W} hb q hq => by
    obtain ⟨gl, e, hr⟩ := own_rdn HO.out HFl.out (by omega)
    have hx := hr.2 q hq
    rw [Nat.zero_add] at hx
    refine ⟨gl, e, Nat.lt_of_lt_of_le hr.1 hb.size, (hb.cell (p := ⟨gl, q, none⟩) hr.1).trans ?_⟩
    rw [hx]; show some (Value.int .i64 ((LL.getD q 0 : Nat) : Int)) = _; rw [HOr.out]
  have HB2 : Hid (Below w2.heap.size w2 (w2.alloc (.cells (madeCells #[.int .i64 0] n) 3))) := below1 w2 _
  obtain ⟨W0, hW0⟩ : ∃ W0, W0 = w2.alloc (.cells (madeCells #[.int .i64 0] n) 3) := ⟨_, rfl⟩
  rw [← hW0] at HV0 HB2 ⊢
  clear hW0 hmk HO HFl HOr
  go_loopw [9, 10, 29] (fun _ _ I wr => ∃ (k : Nat), I = .int .i64 k ∧ k ≤ n ∧ Hid (NW w wr w2.heap.size #[.slice (some ⟨bS, oS, none⟩) n cS, .slice (some ⟨bT, oT, none⟩) n cT] #[.slice none 0 0, .slice none 0 0] n (plN l k) (.slice none 0 0) []) ∧ Hid (Below w2.heap.size w2 wr)) (fun _ _ I _ => n - (intOf I).toNat)
  case atStart => exact ⟨0, rfl, Nat.zero_le _, HV0.out, HB2.out⟩
  case round =>
    clear HV0 HB2
    obtain ⟨k, rfl, hk, HV, HB2⟩ := hrel
    by_cases hlt : k < n
    · have hki : (k : Int) < (n : Int) := by omega
      have h1 := HLm.out k hlt
      obtain ⟨gl, rfl, hgl, c1⟩ := HLc.out HB2.out k hlt
      have H2 : Hid (NW w (wr.setCell ⟨w2.heap.size, l k, none⟩ (.int .i64 (k : Nat))) w2.heap.size #[.slice (some ⟨bS, oS, none⟩) n cS, .slice (some ⟨bT, oT, none⟩) n cT] #[.slice none 0 0, .slice none 0 0] n (plN l (k + 1)) (.slice none 0 0) []) := HV.out.set (l k) k
      have B2 : Hid (Below w2.heap.size w2 (wr.setCell ⟨w2.heap.size, l k, none⟩ (.int .i64 (k : Nat)))) := HB2.out.setCell (Nat.le_refl _) _
      have n1 := HV.out.row.cell (i := l k) h1
      have nf := HV.out.row.frozen (l k)
      generalize l k = x at *
      have hxi : (x : Int) < (n : Int) := by omega
      go_wp2
      go_roundw
      case rel => exact ⟨k + 1, by go_num, hlt, H2.out, B2.out⟩
      case measure => simp [intOf]; omega
    · obtain rfl : n = k := by omega
      have hk2 : ¬ (n : Int) < (n : Int) := by omega
      generalize hNe9 : plN l n = N at *
      clear hNe9
      have HLw : Hid (∀ q, q < n → ∃ gl, AL = some ⟨gl, 0, none⟩ ∧ gl < wr.heap.size ∧ wr.cell? ⟨gl, q, none⟩ = some (.int .i64 (l q : Nat))) := HLc.out HB2.out
      clear HB2
      obtain ⟨W, hW⟩ : ∃ W, W = wr := ⟨_, rfl⟩
      rw [← hW] at HV HLw ⊢
      clear hW
      have HQ0 := Lib.hid (qv_start W)
      have hbz := HV.out.bel.size
      go_wp2
      go_loopw [13, 41] (fun _ I wr => ∃ (q : Nat) (vS vT : Value), I = .int .i64 q ∧ q ≤ n ∧ Hid (QV W wr vS vT (((List.range q)).map fun i => N (g (l i))) (((List.range q)).map fun i => N (f (l i))))) (fun _ I _ => n - (intOf I).toNat)
      case atStart => exact ⟨0, _, _, rfl, Nat.zero_le _, HQ0.out⟩
      case round =>
        clear HQ0
        obtain ⟨q, vS, vT, rfl, hq, HQ⟩ := hrel
        by_cases hql : q < n
        · have hqi : (q : Int) < (n : Int) := by omega
          obtain ⟨gl, rfl, hgl, hlc⟩ := HLw.out q hql
          have hlc' := (HQ.out.bel.cell (p := ⟨gl, q, none⟩) hgl).trans hlc
          have HTk1 : Hid ((List.range (q + 1)).map (fun i => N (g (l i))) = (List.range q).map (fun i => N (g (l i))) ++ [N (g (l q))]) := by show _ = _; rw [List.range_succ, List.map_append]; rfl
          have HTk2 : Hid ((List.range (q + 1)).map (fun i => N (f (l i))) = (List.range q).map (fun i => N (f (l i))) ++ [N (f (l q))]) := by show _ = _; rw [List.range_succ, List.map_append]; rfl
          have hin : l q < n := HLm.out _ hql
          have hPl : ((List.range q).map fun i => N (g (l i))).length = q := by rw [List.length_map, List.length_range]
          have hPl2 : ((List.range q).map fun i => N (f (l i))).length = q := by rw [List.length_map, List.length_range]
          have hlen2 : n ≤ 1152 := hn
          generalize hPS : (List.range q).map (fun i => N (g (l i))) = PS at *
          generalize hPT : (List.range q).map (fun i => N (f (l i))) = PT at *
          clear hPS hPT
          generalize l q = i at *
          have hgi := HG.out.lt i hin
          have hfi := HF.out.lt i hin
          have hini : (i : Int) < (n : Int) := by omega
          have hPS1 : PS.length ≤ 1152 := by omega
          have hPT1 : PT.length ≤ 1152 := by omega
          clear hPl hPl2 hlen2
          have HHd0 : Hid (∀ {w' : World} {vS vT : Value} {P P' : List Nat}, QV W w' vS vT P P' → (w'.cell? ⟨W.heap.size, 0, none⟩ = some vS ∧ w'.cell? ⟨w.heap.size, 0, none⟩ = some (.slice (some ⟨bS, oS, none⟩) n cS)) ∧ w'.cell? ⟨bS, oS + i, none⟩ = some (.int .i64 (g i : Nat)) ∧ w'.cell? ⟨w2.heap.size, g i, none⟩ = some (.int .i64 (N (g i) : Nat))) := fun h =>
            ⟨⟨(two_of_block h.p).1.1, (h.bel.cell (p := ⟨w.heap.size, 0, none⟩) (lt_of_block HV.out.x)).trans (two_of_block HV.out.x).1.1⟩, ((HV.out.bel.trans (h.bel.mono hbz)).cell (p := ⟨bS, oS + i, none⟩) HS.out.1).trans (HS.out.2 i hin), (h.bel.cell (p := ⟨w2.heap.size, g i, none⟩) HV.out.row.lt).trans (HV.out.row.cell (i := g i) hgi)⟩
          have HHd1 : Hid (∀ {w' : World} {vS vT : Value} {P P' : List Nat}, QV W w' vS vT P P' → (w'.cell? ⟨W.heap.size, 1, none⟩ = some vT ∧ w'.cell? ⟨w.heap.size, 1, none⟩ = some (.slice (some ⟨bT, oT, none⟩) n cT)) ∧ w'.cell? ⟨bT, oT + i, none⟩ = some (.int .i64 (f i : Nat)) ∧ w'.cell? ⟨w2.heap.size, f i, none⟩ = some (.int .i64 (N (f i) : Nat))) := fun h =>
            ⟨⟨(two_of_block h.p).1.2, (h.bel.cell (p := ⟨w.heap.size, 1, none⟩) (lt_of_block HV.out.x)).trans (two_of_block HV.out.x).1.2⟩, ((HV.out.bel.trans (h.bel.mono hbz)).cell (p := ⟨bT, oT + i, none⟩) HT.out.1).trans (HT.out.2 i hin), (h.bel.cell (p := ⟨w2.heap.size, f i, none⟩) HV.out.row.lt).trans (HV.out.row.cell (i := f i) hfi)⟩
          clear hlc
          generalize g i = gi at *
          generalize f i = fi at *
          generalize N gi = ng at *
          generalize N fi = nf at *
          have hgii : (gi : Int) < (n : Int) := by omega
          have hfii : (fi : Int) < (n : Int) := by omega
          have HQa := Lib.hid HQ.out.drew
          go_upto_region 15 with fail
          go_cut [13] (fun s9 wx => s9 = .int .i64 (i : Nat) ∧ ∃ vS', Hid (QV W wx vS' vT (PS ++ [ng]) PT))
          case first =>
            obtain ⟨wd0, hwd0⟩ : ∃ wd0, wd0 = wr.drew := ⟨_, rfl⟩
            have HQd : Hid (QV W wd0 vS vT PS PT) := by rw [hwd0]; exact HQa.out
            refine region_E 11 (fun w' => (w'.cell? ⟨W.heap.size, 0, none⟩ = some vS ∧ w'.cell? ⟨w.heap.size, 0, none⟩ = some (.slice (some ⟨bS, oS, none⟩) n cS)) ∧ w'.cell? ⟨bS, oS + i, none⟩ = some (.int .i64 (gi : Nat)) ∧ w'.cell? ⟨w2.heap.size, gi, none⟩ = some (.int .i64 (ng : Nat))) (by kernel_rfl) ?_
            rw [← hwd0]
            clear hwd0
            have hHeld := HHd0.out HQd.out
            refine take_E (n := 11) (i := 0) (v := ?va_0) rfl (by kernel_rfl) (fun _ _ _ h => h) ?hya_0 (by rfl) hHeld ?resta_0
            case hya_0 => (intro w9 hSw; (try dsimp only at hSw); go_simp <;> with_reducible rfl)
            (try simp only [List.getElem_toArray, List.getElem_cons_zero, List.getElem_cons_succ, Act.put, List.setIfInBounds_toArray, List.set_cons_zero, List.set_cons_succ])
            refine take_E (n := 11) (i := 1) (v := ?va_1) rfl (by kernel_rfl) (fun _ _ _ h => h) ?hya_1 (by rfl) hHeld ?resta_1
            case hya_1 => (intro w9 hSw; (try dsimp only at hSw); go_simp <;> with_reducible rfl)
            (try simp only [List.getElem_toArray, List.getElem_cons_zero, List.getElem_cons_succ, Act.put, List.setIfInBounds_toArray, List.set_cons_zero, List.set_cons_succ])
            refine take_E (n := 11) (i := 2) (v := ?va_2) rfl (by kernel_rfl) (fun _ _ _ h => h) ?hya_2 (by rfl) hHeld ?resta_2
            case hya_2 => (intro w9 hSw; (try dsimp only at hSw); go_simp <;> with_reducible rfl)
            (try simp only [List.getElem_toArray, List.getElem_cons_zero, List.getElem_cons_succ, Act.put, List.setIfInBounds_toArray, List.set_cons_zero, List.set_cons_succ])
            refine take_E (n := 11) (i := 3) (v := ?va_3) rfl (by kernel_rfl) (fun _ _ _ h => h) ?hya_3 (by rfl) hHeld ?resta_3
            case hya_3 => (intro w9 hSw; (try dsimp only at hSw); go_simp <;> with_reducible rfl)
            (try simp only [List.getElem_toArray, List.getElem_cons_zero, List.getElem_cons_succ, Act.put, List.setIfInBounds_toArray, List.set_cons_zero, List.set_cons_succ])
            refine take_E (n := 11) (i := 4) (v := ?va_4) rfl (by kernel_rfl) (fun _ _ _ h => h) ?hya_4 (by rfl) hHeld ?resta_4
            case hya_4 => (intro w9 hSw; (try dsimp only at hSw); go_simp <;> with_reducible rfl)
            (try simp only [List.getElem_toArray, List.getElem_cons_zero, List.getElem_cons_succ, Act.put, List.setIfInBounds_toArray, List.set_cons_zero, List.set_cons_succ])
            refine take_E (n := 11) (i := 5) (v := ?va_5) rfl (by kernel_rfl) (fun _ _ _ h => h) ?hya_5 (by rfl) hHeld ?resta_5
            case hya_5 => (intro w9 hSw; (try dsimp only at hSw); go_simp <;> with_reducible rfl)
            (try simp only [List.getElem_toArray, List.getElem_cons_zero, List.getElem_cons_succ, Act.put, List.setIfInBounds_toArray, List.set_cons_zero, List.set_cons_succ])
            refine take_E (n := 11) (i := 6) (v := ?va_6) rfl (by kernel_rfl) (fun _ _ _ h => h) ?hya_6 (by rfl) hHeld ?resta_6
            case hya_6 => (intro w9 hSw; (try dsimp only at hSw); go_simp <;> with_reducible rfl)
            (try simp only [List.getElem_toArray, List.getElem_cons_zero, List.getElem_cons_succ, Act.put, List.setIfInBounds_toArray, List.set_cons_zero, List.set_cons_succ])
            refine take_E (n := 11) (i := 7) (v := ?va_7) rfl (by kernel_rfl) (fun _ _ _ h => h) ?hya_7 (by rfl) hHeld ?resta_7
            case hya_7 => (intro w9 hSw; (try dsimp only at hSw); go_simp <;> with_reducible rfl)
            (try simp only [List.getElem_toArray, List.getElem_cons_zero, List.getElem_cons_succ, Act.put, List.setIfInBounds_toArray, List.set_cons_zero, List.set_cons_succ])
            refine take_E (n := 11) (i := 8) (v := ?va_8) rfl (by kernel_rfl) (fun _ _ _ h => h) ?hya_8 (by rfl) hHeld ?resta_8
            case hya_8 => (intro w9 hSw; (try dsimp only at hSw); go_simp <;> with_reducible rfl)
            (try simp only [List.getElem_toArray, List.getElem_cons_zero, List.getElem_cons_succ, Act.put, List.setIfInBounds_toArray, List.set_cons_zero, List.set_cons_succ])
            refine take_E (n := 11) (i := 9) (v := ?va_9) rfl (by kernel_rfl) (fun _ _ _ h => h) ?hya_9 (by rfl) hHeld ?resta_9
            case hya_9 => (intro w9 hSw; (try dsimp only at hSw); go_simp <;> with_reducible rfl)
            (try simp only [List.getElem_toArray, List.getElem_cons_zero, List.getElem_cons_succ, Act.put, List.setIfInBounds_toArray, List.set_cons_zero, List.set_cons_succ])
            refine one_E (n := 11) (i := 10) (by kernel_rfl) rfl (fun K hK => ?_)
            go_simp
            refine hK.out _ _ (fun _ => HHd0.out (HQd.out.alloc _)) (fun hHeld10 => ?_)
            clear hK K
            (try simp only [List.getElem_toArray, List.getElem_cons_zero, List.getElem_cons_succ, Act.put, List.setIfInBounds_toArray, List.set_cons_zero, List.set_cons_succ])
            refine one_E (n := 11) (i := 11) (by kernel_rfl) rfl (fun K hK => ?_)
            refine step_append_lies _ (by rfl) _ _ _ (by rfl) (W.heap.size + 1) 3 i0 _ 1 8 Try.underlying22 hi0 z0 z1 z2 rfl (by omega) vS PS.length (zs (iz PS)) (by rfl) (HQd.out.alloc _).rS ⟨wd0.heap.size, 0, none⟩ 1 1 [.int .i64 (ng : Nat)] (by rfl) (by rfl) (World.news_of_block (cs := #[.int .i64 (ng : Nat)]) (t := 3) (fr := (0, 0)) (heap_alloc_new wd0 _)) (by simp [Value.oneCell']) (by omega) (by unfold maxLen; omega) (by omega) (by have := lt_of_block HQd.out.p; simp; omega) (wd0.heap.size + 1) (by simp) ?_
            intro gg cap' p2 hown2 hgrow hat hlt3
            obtain ⟨hpb, hq9⟩ := (HQd.out.alloc _).pushS hown2 hgrow (by simpa using hat)
            have HQb := Lib.hid hq9
            have fz := (two_of_block hpb).2
            have qz := (two_of_block hpb).1
            clear hown2 hgrow hat hq9
            refine hK.out _ _ (fun h => absurd h (by decide)) (fun hHeld11 => ?_)
            clear hK K
            (try simp only [List.getElem_toArray, List.getElem_cons_zero, List.getElem_cons_succ, Act.put, List.setIfInBounds_toArray, List.set_cons_zero, List.set_cons_succ])
            refine one_E (n := 11) (i := 12) (by kernel_rfl) rfl (fun K hK => ?_)
            go_simp
            refine hK.out _ _ (fun h => absurd h (by decide)) (fun hHeld12 => ?_)
            clear hK K
            (try simp only [List.getElem_toArray, List.getElem_cons_zero, List.getElem_cons_succ, Act.put, List.setIfInBounds_toArray, List.set_cons_zero, List.set_cons_succ])
            refine one_E (n := 11) (i := 13) (by kernel_rfl) rfl (fun K hK => ?_)
            go_simp
            refine hK.out _ _ (fun h => absurd h (by decide)) (fun hHeld13 => ?_)
            clear hK K
            (try simp only [List.getElem_toArray, List.getElem_cons_zero, List.getElem_cons_succ, Act.put, List.setIfInBounds_toArray, List.set_cons_zero, List.set_cons_succ])
            refine done_E (by kernel_rfl) ?_ _
            go_wp2_with fail
            go_meet
            exact ⟨rfl, _, HQb⟩
          case rest =>
            obtain ⟨rfl, vS', HQ1⟩ := hcut
            clear HQa HQ
            go_wp2
            have HQe := Lib.hid HQ1.drew
            obtain ⟨wd1, hwd1⟩ : ∃ wd1, wd1 = wc.drew := ⟨_, rfl⟩
            have HQf : Hid (QV W wd1 vS' vT (PS ++ [ng]) PT) := by rw [hwd1]; exact HQe.out
            refine region_E 11 (fun w' => (w'.cell? ⟨W.heap.size, 1, none⟩ = some vT ∧ w'.cell? ⟨w.heap.size, 1, none⟩ = some (.slice (some ⟨bT, oT, none⟩) n cT)) ∧ w'.cell? ⟨bT, oT + i, none⟩ = some (.int .i64 (fi : Nat)) ∧ w'.cell? ⟨w2.heap.size, fi, none⟩ = some (.int .i64 (nf : Nat))) (by kernel_rfl) ?_
            rw [← hwd1]
            clear hwd1
            have hHeld := HHd1.out HQf.out
            refine take_E (n := 11) (i := 0) (v := ?vb_0) rfl (by kernel_rfl) (fun _ _ _ h => h) ?hyb_0 (by rfl) hHeld ?restb_0
            case hyb_0 => (intro w9 hSw; (try dsimp only at hSw); go_simp <;> with_reducible rfl)
            (try simp only [List.getElem_toArray, List.getElem_cons_zero, List.getElem_cons_succ, Act.put, List.setIfInBounds_toArray, List.set_cons_zero, List.set_cons_succ])
            refine take_E (n := 11) (i := 1) (v := ?vb_1) rfl (by kernel_rfl) (fun _ _ _ h => h) ?hyb_1 (by rfl) hHeld ?restb_1
            case hyb_1 => (intro w9 hSw; (try dsimp only at hSw); go_simp <;> with_reducible rfl)
            (try simp only [List.getElem_toArray, List.getElem_cons_zero, List.getElem_cons_succ, Act.put, List.setIfInBounds_toArray, List.set_cons_zero, List.set_cons_succ])
            refine take_E (n := 11) (i := 2) (v := ?vb_2) rfl (by kernel_rfl) (fun _ _ _ h => h) ?hyb_2 (by rfl) hHeld ?restb_2
            case hyb_2 => (intro w9 hSw; (try dsimp only at hSw); go_simp <;> with_reducible rfl)
            (try simp only [List.getElem_toArray, List.getElem_cons_zero, List.getElem_cons_succ, Act.put, List.setIfInBounds_toArray, List.set_cons_zero, List.set_cons_succ])
            refine take_E (n := 11) (i := 3) (v := ?vb_3) rfl (by kernel_rfl) (fun _ _ _ h => h) ?hyb_3 (by rfl) hHeld ?restb_3
            case hyb_3 => (intro w9 hSw; (try dsimp only at hSw); go_simp <;> with_reducible rfl)
            (try simp only [List.getElem_toArray, List.getElem_cons_zero, List.getElem_cons_succ, Act.put, List.setIfInBounds_toArray, List.set_cons_zero, List.set_cons_succ])
            refine take_E (n := 11) (i := 4) (v := ?vb_4) rfl (by kernel_rfl) (fun _ _ _ h => h) ?hyb_4 (by rfl) hHeld ?restb_4
            case hyb_4 => (intro w9 hSw; (try dsimp only at hSw); go_simp <;> with_reducible rfl)
            (try simp only [List.getElem_toArray, List.getElem_cons_zero, List.getElem_cons_succ, Act.put, List.setIfInBounds_toArray, List.set_cons_zero, List.set_cons_succ])
            refine take_E (n := 11) (i := 5) (v := ?vb_5) rfl (by kernel_rfl) (fun _ _ _ h => h) ?hyb_5 (by rfl) hHeld ?restb_5
            case hyb_5 => (intro w9 hSw; (try dsimp only at hSw); go_simp <;> with_reducible rfl)
            (try simp only [List.getElem_toArray, List.getElem_cons_zero, List.getElem_cons_succ, Act.put, List.setIfInBounds_toArray, List.set_cons_zero, List.set_cons_succ])
            refine take_E (n := 11) (i := 6) (v := ?vb_6) rfl (by kernel_rfl) (fun _ _ _ h => h) ?hyb_6 (by rfl) hHeld ?restb_6
            case hyb_6 => (intro w9 hSw; (try dsimp only at hSw); go_simp <;> with_reducible rfl)
            (try simp only [List.getElem_toArray, List.getElem_cons_zero, List.getElem_cons_succ, Act.put, List.setIfInBounds_toArray, List.set_cons_zero, List.set_cons_succ])
            refine take_E (n := 11) (i := 7) (v := ?vb_7) rfl (by kernel_rfl) (fun _ _ _ h => h) ?hyb_7 (by rfl) hHeld ?restb_7
            case hyb_7 => (intro w9 hSw; (try dsimp only at hSw); go_simp <;> with_reducible rfl)
            (try simp only [List.getElem_toArray, List.getElem_cons_zero, List.getElem_cons_succ, Act.put, List.setIfInBounds_toArray, List.set_cons_zero, List.set_cons_succ])
            refine take_E (n := 11) (i := 8) (v := ?vb_8) rfl (by kernel_rfl) (fun _ _ _ h => h) ?hyb_8 (by rfl) hHeld ?restb_8
            case hyb_8 => (intro w9 hSw; (try dsimp only at hSw); go_simp <;> with_reducible rfl)
            (try simp only [List.getElem_toArray, List.getElem_cons_zero, List.getElem_cons_succ, Act.put, List.setIfInBounds_toArray, List.set_cons_zero, List.set_cons_succ])
            refine take_E (n := 11) (i := 9) (v := ?vb_9) rfl (by kernel_rfl) (fun _ _ _ h => h) ?hyb_9 (by rfl) hHeld ?restb_9
            case hyb_9 => (intro w9 hSw; (try dsimp only at hSw); go_simp <;> with_reducible rfl)
            (try simp only [List.getElem_toArray, List.getElem_cons_zero, List.getElem_cons_succ, Act.put, List.setIfInBounds_toArray, List.set_cons_zero, List.set_cons_succ])
            refine one_E (n := 11) (i := 10) (by kernel_rfl) rfl (fun K hK => ?_)
            go_simp
            refine hK.out _ _ (fun _ => HHd1.out (HQf.out.alloc _)) (fun hHeld10 => ?_)
            clear hK K
            (try simp only [List.getElem_toArray, List.getElem_cons_zero, List.getElem_cons_succ, Act.put, List.setIfInBounds_toArray, List.set_cons_zero, List.set_cons_succ])
            refine one_E (n := 11) (i := 11) (by kernel_rfl) rfl (fun K hK => ?_)
            refine step_append_lies _ (by rfl) _ _ _ (by rfl) (W.heap.size + 1) 3 i0 _ 1 8 Try.underlying22 hi0 z0 z1 z2 rfl (by omega) vT PT.length (zs (iz PT)) (by rfl) (HQf.out.alloc _).rT ⟨wd1.heap.size, 0, none⟩ 1 1 [.int .i64 (nf : Nat)] (by rfl) (by rfl) (World.news_of_block (cs := #[.int .i64 (nf : Nat)]) (t := 3) (fr := (0, 0)) (heap_alloc_new wd1 _)) (by simp [Value.oneCell']) (by omega) (by unfold maxLen; omega) (by omega) (by have := lt_of_block HQf.out.p; simp; omega) (wd1.heap.size + 1) (by simp) ?_
            intro gg cap' p2 hown2 hgrow hat hlt3
            obtain ⟨hpb, hq9⟩ := (HQf.out.alloc _).pushT hown2 hgrow (by simpa using hat)
            have HQc := Lib.hid hq9
            have fz := (two_of_block hpb).2
            have qz := (two_of_block hpb).1
            clear hown2 hgrow hat hq9
            refine hK.out _ _ (fun h => absurd h (by decide)) (fun hHeld11 => ?_)
            clear hK K
            (try simp only [List.getElem_toArray, List.getElem_cons_zero, List.getElem_cons_succ, Act.put, List.setIfInBounds_toArray, List.set_cons_zero, List.set_cons_succ])
            refine one_E (n := 11) (i := 12) (by kernel_rfl) rfl (fun K hK => ?_)
            go_simp
            refine hK.out _ _ (fun h => absurd h (by decide)) (fun hHeld12 => ?_)
            clear hK K
            (try simp only [List.getElem_toArray, List.getElem_cons_zero, List.getElem_cons_succ, Act.put, List.setIfInBounds_toArray, List.set_cons_zero, List.set_cons_succ])
            refine one_E (n := 11) (i := 13) (by kernel_rfl) rfl (fun K hK => ?_)
            go_simp
            refine hK.out _ _ (fun h => absurd h (by decide)) (fun hHeld13 => ?_)
            clear hK K
            (try simp only [List.getElem_toArray, List.getElem_cons_zero, List.getElem_cons_succ, Act.put, List.setIfInBounds_toArray, List.set_cons_zero, List.set_cons_succ])
            refine done_E (by kernel_rfl) ?_ _
            go_wp2
            go_roundw
            case rel => exact ⟨q + 1, _, _, by go_num, hql, by rw [HTk1.out, HTk2.out]; exact HQc.out⟩
            case measure => simp [intOf]; omega
        · obtain rfl : n = q := by omega
          have hq2 : ¬ (n : Int) < (n : Int) := by omega
          obtain ⟨A1, c1, rfl⟩ := own_len HQ.out.rS
          obtain ⟨A2, c2, rfl⟩ := own_len HQ.out.rT
          have HSr := Lib.hid HQ.out.rS
          have HTr := Lib.hid HQ.out.rT
          have HPx := Lib.hid HQ.out.p
          rw [List.length_map, List.length_range] at HSr HTr HPx
          rw [List.length_map, List.length_range] at HPx
          have HRx : Hid (wr.heap[w.heap.size + 1]? = some (.cells #[.slice none 0 0, .slice none 0 0] 24 (0, 0))) := (HQ.out.bel.block _ (lt_of_block HV.out.r)).trans HV.out.r
          have HBx := Lib.hid (HV.out.bel.trans (HQ.out.bel.mono hbz))
          have hlr := lt_of_block HV.out.r
          obtain ⟨⟨p1, p2⟩, pf⟩ := two_of_block HPx.out
          obtain ⟨⟨r1, r2⟩, rf⟩ := two_of_block HRx.out
          have hzz := lt_of_block HRx.out
          clear HQ
          go_wp2
          have hrl := two_set1 (two_set0 HRx.out (.slice A1 n c1)) (.slice A2 n c2)
          obtain ⟨⟨s1, s2⟩, _⟩ := two_of_block hrl
          refine bodyPost_ret (v := .tuple #[.agg #[.slice A1 n c1, .slice A2 n c2], .int .i64 0]) ?_ rfl (bp_fin (B := w.heap.size) (own_base (B := W.heap.size + 1) (by omega) (own_set (own_set HSr.out (by omega) _) (by omega) _)) (own_base (B := W.heap.size + 1) (by omega) (own_set (own_set HTr.out (by omega) _) (by omega) _)) ES.out ET.out (by simp) (by simp) ((HBx.out.setCell (by show _ ≤ w.heap.size + 1; omega) _).setCell (by show _ ≤ w.heap.size + 1; omega) _))
          · simp [results, Try.results15, go_sem, s1, s2]
end Go.Proofs.Ytmikhkolbkdnpaa
