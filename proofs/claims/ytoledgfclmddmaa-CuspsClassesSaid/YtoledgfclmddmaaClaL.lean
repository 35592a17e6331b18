/- The contracts of Class, of the code and of the reference. -/
import Derived.Test.YtoledgfclmddmaaRClsL
namespace Go.Proofs.Ytoledgfclmddmaa
open Go.RowKit
set_option linter.unusedVariables false
set_option linter.unusedSimpArgs false

/-- The class of each point of an action. -/
def clsC (S T : List Int) : Nat → Int := (cst (uB (fnz T) (fun i => fnz S (fnz S i)) S.length) S.length).1
noncomputable def clsE (S T : List Int) (i : Int) : Int := if chkA S T = 0 then (if i < 0 ∨ (S.length : Int) ≤ i then 2 else 0) else chkA S T
noncomputable def clsV (S T : List Int) (i : Int) : Int := if clsE S T i = 0 then clsC S T i.toNat else 0
theorem cls_bad {S T : List Int} {i : Int} (h : chkA S T ≠ 0) : clsE S T i = chkA S T ∧ clsV S T i = 0 := by
  have e : clsE S T i = chkA S T := if_neg h
  exact ⟨e, by unfold clsV; rw [e, if_neg h]⟩
theorem cls_out {S T : List Int} {i : Int} (h : chkA S T = 0) (hi : i < 0 ∨ (S.length : Int) ≤ i) : clsE S T i = 2 ∧ clsV S T i = 0 := by
  have e : clsE S T i = 2 := by unfold clsE; rw [if_pos h, if_pos hi]
  exact ⟨e, by unfold clsV; rw [e]; rfl⟩
theorem cls_in {S T : List Int} {i : Nat} (h : chkA S T = 0) (hi : i < S.length) : clsE S T i = 0 ∧ clsV S T i = clsC S T i := by
  have e : clsE S T i = 0 := by unfold clsE; rw [if_pos h, if_neg (by omega)]
  exact ⟨e, by unfold clsV; rw [e, if_pos rfl]; rfl⟩
/-- What comes in reads as an action where the check says so. -/
theorem ai_of {w : World} {S T : List Int} {B cS cT : Nat} {AS AT : Option Addr} (hS : RdZ w B AS cS S) (hT : RdZ w B AT cT T) (hB : B ≤ w.heap.size) (ha : Act2 S T) : ∃ bS oS bT oT, AS = some ⟨bS, oS, none⟩ ∧ AT = some ⟨bT, oT, none⟩ ∧ AI w B bS oS bT oT S T cS cT := by
  have hpos := ha.pos
  obtain ⟨bS, oS, rfl, rS⟩ := hS.rdn ha.s hpos
  obtain ⟨bT, oT, rfl, rT⟩ := hT.rdn ha.t (by rw [ha.len]; exact hpos)
  rw [ha.len] at rT
  exact ⟨bS, oS, bT, oT, rfl, rfl, ha, hS, hT, rS, rT, hB⟩
set_option maxHeartbeats 3200000 in
set_option maxRecDepth 1000000 in
theorem class_any {S T : List Int} {B cS cT : Nat} {AS AT : Option Addr} (i : Int) (w : World) (hS : RdZ w B AS cS S) (hT : RdZ w B AT cT T) (hB : B ≤ w.heap.size) :
    Calls Try.prog 12 #[.agg #[.slice AS S.length cS, .slice AT T.length cT], .int .i64 i] w fun e w' => e = .returned (.tuple #[.int .i64 (clsV S T i), .int .i64 (clsE S T i)]) ∧ Below w.heap.size w w' := by
  have hlS := hS.len
  have T0 : Hid ((w.alloc (.cells #[.slice AS S.length cS, .slice AT T.length cT] 24)).heap[w.heap.size]? = some (.cells #[.slice AS S.length cS, .slice AT T.length cT] 24 (0, 0))) := heap_alloc_new w _
  have HB0 : Hid (Below w.heap.size w (w.alloc (.cells #[.slice AS S.length cS, .slice AT T.length cT] 24))) := below1 w _
  have HCk : Hid (∀ W, Below w.heap.size w W → Calls Try.prog 22 #[.agg #[.slice AS S.length cS, .slice AT T.length cT]] W fun e w' => e = .returned (.int .i64 (chkA S T)) ∧ Below W.heap.size W w') := fun W hb => pcheck_any W (hS.below (hb.mono hB)) (hT.below (hb.mono hB)) (Nat.le_trans hB hb.size)
  by_cases hc : chkA S T = 0
  case neg =>
    rw [(cls_bad hc).1, (cls_bad hc).2]
    have hcb : (chkA S T == 0) = false := by simpa using hc
    clear hc hS hT
    generalize chkA S T = z at *
    go_enter Try.func12, Try.ntmps12
    go_wp2_with (first
      | (go_at_call 22; ((with_reducible refine (HCk.out _ HB0.out).mono ?_); rintro e w1 ⟨rfl, hb⟩; have HB1 := Lib.hid (bel0 HB0.out hb); clear hb))
      | fail)
    go_ret2
    exact ⟨rfl, HB1.out⟩
  have ha := chkA_zero hc
  obtain ⟨bS, oS, bT, oT, rfl, rfl, hAI⟩ := ai_of hS hT hB ha
  rw [ha.len] at T0 HB0 HCk ⊢
  rw [hc] at HCk
  have hpos := ha.pos
  by_cases hi : i < 0 ∨ (S.length : Int) ≤ i
  · rw [(cls_out hc hi).1, (cls_out hc hi).2]
    clear hS hT hAI hc ha
    rcases hi with hi | hi
    all_goals
      first | skip | (have hi0 : ¬ i < 0 := by omega)
      go_enter Try.func12, Try.ntmps12
      go_wp2_with (first
        | (go_at_call 22; ((with_reducible refine (HCk.out _ HB0.out).mono ?_); rintro e w1 ⟨rfl, hb⟩; have HB1 := Lib.hid (bel0 HB0.out hb); have T1 := Lib.hid (block_below T0.out hb); obtain ⟨⟨t1, t2⟩, _⟩ := two_of_block T1.out; clear hb))
        | fail)
      go_ret2
      exact ⟨rfl, HB1.out⟩
  · obtain ⟨j, rfl⟩ : ∃ j : Nat, i = j := ⟨i.toNat, by omega⟩
    have hj : j < S.length := by omega
    have hji : (j : Int) < (S.length : Int) := by omega
    have hj0 : ¬ (j : Int) < 0 := by omega
    rw [(cls_in hc hj).1, (cls_in hc hj).2]
    have HCl : Hid (∀ W, Below w.heap.size w W → Calls Try.prog 23 #[.agg #[.slice (some ⟨bS, oS, none⟩) S.length cS, .slice (some ⟨bT, oT, none⟩) S.length cT]] W fun e w' => ∃ v0 b0, e = .returned (.tuple #[v0, .slice (some ⟨b0, 0, none⟩) S.length S.length]) ∧ w'.rowIs b0 3 S.length (fun j => .int .i64 (clsC S T j)) ∧ Below W.heap.size W w') := fun W hb => (classes_any W (hAI.below hb) _ rfl _ rfl _ rfl).mono fun e w' ⟨A, c, bc, h1, _, h2, h3⟩ => ⟨_, bc, h1, h2, h3⟩
    clear hS hT hc hi
    clear hAI ha
    go_enter Try.func12, Try.ntmps12
    go_wp2_with (first
      | (go_at_call 22; ((with_reducible refine (HCk.out _ HB0.out).mono ?_); rintro e w1 ⟨rfl, hb⟩; have HB1 := Lib.hid (bel0 HB0.out hb); have T1 := Lib.hid (block_below T0.out hb); obtain ⟨⟨t1, t2⟩, _⟩ := two_of_block T1.out; clear hb))
      | (go_at_call 23; ((with_reducible refine (HCl.out _ HB1.out).mono ?_); rintro e w2 ⟨v0, b0, rfl, hr, hb⟩; have HB2 := Lib.hid (bel0 HB1.out hb); have c9 := hr.cell (i := j) hj; clear hb))
      | fail)
    go_ret2
    exact ⟨rfl, HB2.out⟩
set_option maxHeartbeats 3200000 in
set_option maxRecDepth 1000000 in
theorem rclass_any {S T : List Int} {B cS cT : Nat} {AS AT : Option Addr} (i : Int) (w : World) (hS : RdZ w B AS cS S) (hT : RdZ w B AT cT T) (hB : B ≤ w.heap.size) :
    Calls Try.prog 13 #[.agg #[.slice AS S.length cS, .slice AT T.length cT], .int .i64 i] w fun e w' => e = .returned (.tuple #[.int .i64 (clsV S T i), .int .i64 (clsE S T i)]) ∧ Below w.heap.size w w' := by
  have hlS := hS.len
  have T0 : Hid ((w.alloc (.cells #[.slice AS S.length cS, .slice AT T.length cT] 24)).heap[w.heap.size]? = some (.cells #[.slice AS S.length cS, .slice AT T.length cT] 24 (0, 0))) := heap_alloc_new w _
  have HB0 : Hid (Below w.heap.size w (w.alloc (.cells #[.slice AS S.length cS, .slice AT T.length cT] 24))) := below1 w _
  have HCk : Hid (∀ W, Below w.heap.size w W → Calls Try.prog 24 #[.agg #[.slice AS S.length cS, .slice AT T.length cT]] W fun e w' => e = .returned (.int .i64 (chkA S T)) ∧ Below W.heap.size W w') := fun W hb => rcheckA_any W (hS.below (hb.mono hB)) (hT.below (hb.mono hB)) (Nat.le_trans hB hb.size)
  by_cases hc : chkA S T = 0
  case neg =>
    rw [(cls_bad hc).1, (cls_bad hc).2]
    have hcb : (chkA S T == 0) = false := by simpa using hc
    clear hc hS hT
    generalize chkA S T = z at *
    go_enter Try.func13, Try.ntmps13
    go_wp2_with (first
      | (go_at_call 24; ((with_reducible refine (HCk.out _ HB0.out).mono ?_); rintro e w1 ⟨rfl, hb⟩; have HB1 := Lib.hid (bel0 HB0.out hb); clear hb))
      | fail)
    go_ret2
    exact ⟨rfl, HB1.out⟩
  have ha := chkA_zero hc
  obtain ⟨bS, oS, bT, oT, rfl, rfl, hAI⟩ := ai_of hS hT hB ha
  rw [ha.len] at T0 HB0 HCk ⊢
  rw [hc] at HCk
  have hpos := ha.pos
  by_cases hi : i < 0 ∨ (S.length : Int) ≤ i
  · rw [(cls_out hc hi).1, (cls_out hc hi).2]
    clear hS hT hAI hc ha
    rcases hi with hi | hi
    all_goals
      first | skip | (have hi0 : ¬ i < 0 := by omega)
      go_enter Try.func13, Try.ntmps13
      go_wp2_with (first
        | (go_at_call 24; ((with_reducible refine (HCk.out _ HB0.out).mono ?_); rintro e w1 ⟨rfl, hb⟩; have HB1 := Lib.hid (bel0 HB0.out hb); have T1 := Lib.hid (block_below T0.out hb); obtain ⟨⟨t1, t2⟩, _⟩ := two_of_block T1.out; clear hb))
        | fail)
      go_ret2
      exact ⟨rfl, HB1.out⟩
  · obtain ⟨j, rfl⟩ : ∃ j : Nat, i = j := ⟨i.toNat, by omega⟩
    have hj : j < S.length := by omega
    have hji : (j : Int) < (S.length : Int) := by omega
    have hj0 : ¬ (j : Int) < 0 := by omega
    rw [(cls_in hc hj).1, (cls_in hc hj).2]
    have HCl : Hid (∀ W, Below w.heap.size w W → Calls Try.prog 25 #[.agg #[.slice (some ⟨bS, oS, none⟩) S.length cS, .slice (some ⟨bT, oT, none⟩) S.length cT]] W fun e w' => ∃ v0 b0, e = .returned (.tuple #[.slice (some ⟨b0, 0, none⟩) S.length S.length, v0]) ∧ w'.rowIs b0 3 S.length (fun j => .int .i64 (clsC S T j + 1)) ∧ Below W.heap.size W w') := fun W hb => (rclasses_any W (hAI.below hb)).mono fun e w' ⟨A, c, bo, h1, _, h2, h3⟩ => ⟨_, bo, h1, h2, h3⟩
    have HRg : Hid (-1 ≤ clsC S T j ∧ clsC S T j ≤ 1152) := by
      have h1 := (cst_inv ha.pt (rel_inv ha.ps ha.pt ha.rel) S.length (Nat.le_refl _))
      have h2 := h1.rng j
      have h3 := h1.len
      have h4 := ha.le
      show -1 ≤ (cst (uB (fnz T) (fun i => fnz S (fnz S i)) S.length) S.length).1 j ∧ (cst (uB (fnz T) (fun i => fnz S (fnz S i)) S.length) S.length).1 j ≤ 1152
      omega
    clear hS hT hc hi
    clear hAI ha
    go_enter Try.func13, Try.ntmps13
    go_wp2_with (first
      | (go_at_call 24; ((with_reducible refine (HCk.out _ HB0.out).mono ?_); rintro e w1 ⟨rfl, hb⟩; have HB1 := Lib.hid (bel0 HB0.out hb); have T1 := Lib.hid (block_below T0.out hb); obtain ⟨⟨t1, t2⟩, _⟩ := two_of_block T1.out; clear hb))
      | (go_at_call 25; ((with_reducible refine (HCl.out _ HB1.out).mono ?_); rintro e w2 ⟨v0, b0, rfl, hr, hb⟩; have HB2 := Lib.hid (bel0 HB1.out hb); have c9 := hr.cell (i := j) hj; clear hb))
      | fail)
    have hw1 : wrap64 (clsC S T j) = clsC S T j := IntWalk.wrap64_in _ (by have := HRg.out; omega)
    go_ret2
    exact ⟨by simp; exact hw1, HB2.out⟩
end Go.Proofs.Ytoledgfclmddmaa
