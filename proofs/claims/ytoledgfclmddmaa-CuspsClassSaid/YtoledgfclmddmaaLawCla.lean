/- CuspsClass answers true for all arguments. -/
import Derived.Test.YtoledgfclmddmaaClaL
import Derived.Test.YtoledgfclmddmaaAwakeL
namespace Go.Proofs.Ytoledgfclmddmaa
open Go.RowKit
set_option linter.unusedVariables false
set_option linter.unusedSimpArgs false

theorem clsC_same {S T : List Int} (ha : Act2 S T) {j k : Nat} (hj : j < S.length) (hu : uB (fnz T) (fun i => fnz S (fnz S i)) S.length j k = true) : clsC S T k = clsC S T j := by
  have hz := rel_inv ha.ps ha.pt ha.rel
  have hI := cst_inv ha.pt hz S.length (Nat.le_refl _)
  have h1 := hI.all j hj
  have hk := uB_bd ha.pt hz hj hu
  unfold clsC
  obtain ⟨q, hq⟩ : ∃ q : Nat, (cst (uB (fnz T) (fun i => fnz S (fnz S i)) S.length) S.length).1 j = (q : Int) := ⟨((cst (uB (fnz T) (fun i => fnz S (fnz S i)) S.length) S.length).1 j).toNat, by omega⟩
  have hql : q < (cst (uB (fnz T) (fun i => fnz S (fnz S i)) S.length) S.length).2.length := by rcases hI.rng j with h | h <;> omega
  have h3 := (hI.iff j hj q hql).2 hq
  have h4 := uB_trans ha.pt hz (hI.bd _ (List.getElem_mem hql)) h3 hu
  rw [(hI.iff k hk q hql).1 h4, hq]
theorem clsC_T {S T : List Int} (ha : Act2 S T) {j : Nat} (hj : j < S.length) : clsC S T (fnz T j) = clsC S T j :=
  clsC_same ha hj ((uB_iff ha.pt (rel_inv ha.ps ha.pt ha.rel) hj).2 (.inl ⟨1, rfl⟩))
theorem clsC_Z {S T : List Int} (ha : Act2 S T) {j : Nat} (hj : j < S.length) : clsC S T (fnz S (fnz S j)) = clsC S T j :=
  clsC_same ha hj ((uB_iff ha.pt (rel_inv ha.ps ha.pt ha.rel) hj).2 (.inr (onC_refl _ _)))
set_option maxHeartbeats 6400000 in
set_option maxRecDepth 1000000 in
theorem lclass_walk (S T : List Int) {cS cT : Nat} {AS AT : Option Addr} (i : Int) (w : World) (hS : RdZ w w.heap.size AS cS S) (hT : RdZ w w.heap.size AT cT T) :
    Calls Try.prog 4 #[.agg #[.slice AS S.length cS, .slice AT T.length cT], .int .i64 i] w fun e w' => e = .returned (.bool true) ∧ Below w.heap.size w w' := by
  have T0 : Hid ((w.alloc (.cells #[.slice AS S.length cS, .slice AT T.length cT] 24)).heap[w.heap.size]? = some (.cells #[.slice AS S.length cS, .slice AT T.length cT] 24 (0, 0))) := heap_alloc_new w _
  have HB0 : Hid (Below w.heap.size w (w.alloc (.cells #[.slice AS S.length cS, .slice AT T.length cT] 24))) := below1 w _
  have HC := Lib.hid (fun (i : Int) W (hb : Below w.heap.size w W) => class_any i W (hS.below hb) (hT.below hb) hb.size)
  have HR := Lib.hid (fun W (hb : Below w.heap.size w W) => rclass_any i W (hS.below hb) (hT.below hb) hb.size)
  by_cases hE : clsE S T i = 0
  case neg =>
    have HC1 := Lib.hid (fun W hb => HC.out i W hb)
    have hz : (clsE S T i == 0) = false := by simpa using hE
    clear hE hS hT HC
    generalize clsE S T i = z at *
    generalize clsV S T i = v at *
    go_enter Try.func4, Try.ntmps4
    go_wp2_with (first
      | (go_at_call 7; ((with_reducible refine (awake_any _).mono ?_); rintro e w1 ⟨rfl, hb⟩; have HB1 := Lib.hid (bel0 HB0.out hb); have T1 := Lib.hid (block_below T0.out hb); obtain ⟨⟨t1, t2⟩, _⟩ := two_of_block T1.out; clear hb))
      | (go_at_call 12; ((with_reducible refine (HC1.out _ HB1.out).mono ?_); rintro e w2 ⟨rfl, hb⟩; have HB2 := Lib.hid (bel0 HB1.out hb); have T2 := Lib.hid (block_below T1.out hb); clear t1 t2; obtain ⟨⟨t1, t2⟩, _⟩ := two_of_block T2.out; clear hb))
      | (go_at_call 13; ((with_reducible refine (HR.out _ HB2.out).mono ?_); rintro e w3 ⟨rfl, hb⟩; have HB3 := Lib.hid (bel0 HB2.out hb); clear hb))
      | fail)
    go_ret
    exact ⟨rfl, HB3.out⟩
  have hck : chkA S T = 0 := by
    refine Decidable.byContradiction fun h => ?_
    rw [(cls_bad h).1] at hE
    exact h hE
  have ha := chkA_zero hck
  have hin : ¬ (i < 0 ∨ (S.length : Int) ≤ i) := fun h => by rw [(cls_out hck h).1] at hE; cases hE
  obtain ⟨j, rfl⟩ : ∃ j : Nat, i = j := ⟨i.toNat, by omega⟩
  have hj : j < S.length := by omega
  obtain ⟨bS, oS, bT, oT, rfl, rfl, hAI⟩ := ai_of hS hT (Nat.le_refl _) ha
  have hg := ha.ps.lt j hj
  have hgg := ha.ps.lt _ hg
  have hf := ha.pt.lt j hj
  have HC1 := Lib.hid (fun W hb => HC.out (j : Nat) W hb)
  have HC2 := Lib.hid (fun W hb => HC.out (fnz T j : Nat) W hb)
  have HC3 := Lib.hid (fun W hb => HC.out (fnz S (fnz S j) : Nat) W hb)
  rw [(cls_in hck hj).1, (cls_in hck hj).2, ha.len] at HC1 HR
  rw [(cls_in hck hf).1, (cls_in hck hf).2, clsC_T ha hj, ha.len] at HC2
  rw [(cls_in hck hgg).1, (cls_in hck hgg).2, clsC_Z ha hj, ha.len] at HC3
  rw [ha.len] at T0 HB0 ⊢
  have HFx : Hid (∀ {W : World}, Below w.heap.size w W → W.cell? ⟨bT, oT + j, none⟩ = some (.int .i64 (fnz T j : Nat)) ∧ W.cell? ⟨bS, oS + j, none⟩ = some (.int .i64 (fnz S j : Nat)) ∧ W.cell? ⟨bS, oS + fnz S j, none⟩ = some (.int .i64 (fnz S (fnz S j) : Nat))) := fun hb =>
    ⟨(hb.cell (p := ⟨bT, oT + j, none⟩) hAI.t.1).trans (hAI.t.2 j hj), (hb.cell (p := ⟨bS, oS + j, none⟩) hAI.s.1).trans (hAI.s.2 j hj), (hb.cell (p := ⟨bS, oS + fnz S j, none⟩) hAI.s.1).trans (hAI.s.2 _ hg)⟩
  have hji : (j : Int) < (S.length : Int) := by omega
  have hgi : (fnz S j : Int) < (S.length : Int) := by omega
  clear hE hck ha hin hAI hS hT HC
  generalize clsC S T j = v at *
  generalize fnz S (fnz S j) = zj at *
  generalize fnz S j = gj at *
  generalize fnz T j = fj at *
  generalize S.length = n at *
  go_enter Try.func4, Try.ntmps4
  go_upto_region 9 with (first
    | (go_at_call 7; ((with_reducible refine (awake_any _).mono ?_); rintro e w1 ⟨rfl, hb⟩; have HB1 := Lib.hid (bel0 HB0.out hb); have T1 := Lib.hid (block_below T0.out hb); obtain ⟨⟨t1, t2⟩, _⟩ := two_of_block T1.out; clear hb))
    | (go_at_call 12; ((with_reducible refine (HC1.out _ HB1.out).mono ?_); rintro e w2 ⟨rfl, hb⟩; have HB2 := Lib.hid (bel0 HB1.out hb); have T2 := Lib.hid (block_below T1.out hb); clear t1 t2; obtain ⟨⟨t1, t2⟩, _⟩ := two_of_block T2.out; clear hb))
    | (go_at_call 13; ((with_reducible refine (HR.out _ HB2.out).mono ?_); rintro e w3 ⟨rfl, hb⟩; have HB3 := Lib.hid (bel0 HB2.out hb).drew; have T3 := Lib.hid (block_below T2.out (hb.trans (Below.refl _ w3).drew)); clear t1 t2 hb))
    | fail)
  go_region_held3 (fun w' => (w'.cell? ⟨w.heap.size, 0, none⟩ = some (.slice (some ⟨bS, oS, none⟩) n cS) ∧ w'.cell? ⟨w.heap.size, 1, none⟩ = some (.slice (some ⟨bT, oT, none⟩) n cT)) ∧ w'.cell? ⟨bT, oT + j, none⟩ = some (.int .i64 (fj : Nat)))
    (with_reducible first | exact ⟨(two_of_block T4.out).1, (HFx.out HB4.out).1⟩ | exact ⟨(two_of_block T3.out).1, (HFx.out HB3.out).1⟩ | fail)
    (first
      | (go_at_call 12; ((with_reducible refine (HC2.out _ HB3.out).mono ?_); rintro e w4 ⟨rfl, hb⟩; have HB4 := Lib.hid (bel0 HB3.out hb); have T4 := Lib.hid (block_below T3.out hb); clear hb))
      | fail)
  go_wp2
  have HB5 := Lib.hid HB4.out.drew
  have T5 : Hid (w4.drew.heap[w.heap.size]? = some (.cells #[.slice (some ⟨bS, oS, none⟩) n cS, .slice (some ⟨bT, oT, none⟩) n cT] 24 (0, 0))) := T4.out
  go_region_held3 (fun w' => (w'.cell? ⟨w.heap.size, 0, none⟩ = some (.slice (some ⟨bS, oS, none⟩) n cS) ∧ w'.cell? ⟨w.heap.size, 1, none⟩ = some (.slice (some ⟨bT, oT, none⟩) n cT)) ∧ w'.cell? ⟨bS, oS + j, none⟩ = some (.int .i64 (gj : Nat)) ∧ w'.cell? ⟨bS, oS + gj, none⟩ = some (.int .i64 (zj : Nat)))
    (with_reducible first | exact ⟨(two_of_block T6.out).1, (HFx.out HB6.out).2⟩ | exact ⟨(two_of_block T5.out).1, (HFx.out HB5.out).2⟩ | fail)
    (first
      | (go_at_call 12; ((with_reducible refine (HC3.out _ HB5.out).mono ?_); rintro e w6 ⟨rfl, hb⟩; have HB6 := Lib.hid (bel0 HB5.out hb); have T6 := Lib.hid (block_below T5.out hb); clear hb))
      | fail)
  go_wp2
  go_ret
  exact ⟨rfl, HB6.out⟩
end Go.Proofs.Ytoledgfclmddmaa
