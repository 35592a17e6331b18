/- The contracts of permutation.checkBoth. The contracts of halfplaneref22.Checks. -/
import Derived.Test.YtjofmgnggeoimaaChkL
import Derived.Test.YtjofmgnggeoimaaLawK
namespace Go.Proofs.Ytjofmgnggeoimaa
open Go.RowKit
set_option linter.unusedVariables false
set_option linter.unusedSimpArgs false

/-- The first error of two actions. -/
noncomputable def chk2 (S T S' T' : List Int) : Int := if chkA S T = 0 then chkA S' T' else chkA S T
set_option maxHeartbeats 3200000 in
set_option maxRecDepth 1000000 in
theorem cboth_any {S T S' T' : List Int} {B cS cT cS' cT' : Nat} {AS AT AS' AT' : Option Addr} (w : World) (hS : RdZ w B AS cS S) (hT : RdZ w B AT cT T) (hS' : RdZ w B AS' cS' S') (hT' : RdZ w B AT' cT' T') (hB : B ≤ w.heap.size) :
    Calls Try.prog 52 #[.agg #[.slice AS S.length cS, .slice AT T.length cT], .agg #[.slice AS' S'.length cS', .slice AT' T'.length cT']] w fun e w' => e = .returned (.int .i64 (chk2 S T S' T')) ∧ Below w.heap.size w w' := by
  have T0 : Hid ((w.alloc (.cells #[.slice AS S.length cS, .slice AT T.length cT] 24)).heap[w.heap.size]? = some (.cells #[.slice AS S.length cS, .slice AT T.length cT] 24 (0, 0))) := heap_alloc_new w _
  have HB0 : Hid (Below w.heap.size w ((w.alloc (.cells #[.slice AS S.length cS, .slice AT T.length cT] 24)).alloc (.cells #[.slice AS' S'.length cS', .slice AT' T'.length cT'] 24))) := bel0 (below1 w _) (below1 _ _)
  have U0 : Hid (((w.alloc (.cells #[.slice AS S.length cS, .slice AT T.length cT] 24)).alloc (.cells #[.slice AS' S'.length cS', .slice AT' T'.length cT'] 24)).heap[w.heap.size + 1]? = some (.cells #[.slice AS' S'.length cS', .slice AT' T'.length cT'] 24 (0, 0))) := by
    have h1 : (w.alloc (.cells #[.slice AS S.length cS, .slice AT T.length cT] 24)).heap.size = w.heap.size + 1 := by simp
    show _ = _
    rw [← h1]
    exact heap_alloc_new _ _
  have HC : Hid (∀ W, Below w.heap.size w W → Calls Try.prog 13 #[.agg #[.slice AS S.length cS, .slice AT T.length cT]] W fun e w' => e = .returned (.int .i64 (chkA S T)) ∧ Below W.heap.size W w') := fun W hb => pcheck_any W (hS.below (hb.mono hB)) (hT.below (hb.mono hB)) (Nat.le_trans hB hb.size)
  have HD : Hid (∀ W, Below w.heap.size w W → Calls Try.prog 13 #[.agg #[.slice AS' S'.length cS', .slice AT' T'.length cT']] W fun e w' => e = .returned (.int .i64 (chkA S' T')) ∧ Below W.heap.size W w') := fun W hb => pcheck_any W (hS'.below (hb.mono hB)) (hT'.below (hb.mono hB)) (Nat.le_trans hB hb.size)
  clear hS hT hS' hT'
  unfold chk2
  by_cases h0 : chkA S T = 0
  · rw [if_pos h0]
    have hh := Lib.hid h0
    go_enter Try.func52, Try.ntmps52
    go_wp2_with (first
      | (go_at_call 13; ((with_reducible refine (HC.out _ HB0.out).mono ?_); rintro e w1 ⟨rfl, hb⟩; have HB1 := Lib.hid (bel0 HB0.out hb); have U1 := Lib.hid (block_below U0.out hb); obtain ⟨⟨t1, t2⟩, _⟩ := two_of_block U1.out; clear hb))
      | (go_at_call 13; ((with_reducible refine (HD.out _ HB1.out).mono ?_); rintro e w2 ⟨rfl, hb⟩; have HB2 := Lib.hid (bel0 HB1.out hb); clear hb))
      | fail)
    go_ret
    exact ⟨rfl, HB2.out⟩
  · rw [if_neg h0]
    go_enter Try.func52, Try.ntmps52
    go_wp2_with (first
      | (go_at_call 13; ((with_reducible refine (HC.out _ HB0.out).mono ?_); rintro e w1 ⟨rfl, hb⟩; have HB1 := Lib.hid (bel0 HB0.out hb); have U1 := Lib.hid (block_below U0.out hb); obtain ⟨⟨t1, t2⟩, _⟩ := two_of_block U1.out; clear hb))
      | fail)
    go_ret
    exact ⟨rfl, HB1.out⟩
end Go.Proofs.Ytjofmgnggeoimaa
namespace Go.Proofs.Ytjofmgnggeoimaa
open Go.RowKit
set_option linter.unusedVariables false
set_option linter.unusedSimpArgs false

set_option maxHeartbeats 3200000 in
set_option maxRecDepth 1000000 in
theorem rchecks_any {S T S' T' : List Int} {B cS cT cS' cT' : Nat} {AS AT AS' AT' : Option Addr} (w : World) (hS : RdZ w B AS cS S) (hT : RdZ w B AT cT T) (hS' : RdZ w B AS' cS' S') (hT' : RdZ w B AT' cT' T') (hB : B ≤ w.heap.size) :
    Calls Try.prog 33 #[.agg #[.slice AS S.length cS, .slice AT T.length cT], .agg #[.slice AS' S'.length cS', .slice AT' T'.length cT']] w fun e w' => e = .returned (.int .i64 (chk2 S T S' T')) ∧ Below w.heap.size w w' := by
  have T0 : Hid ((w.alloc (.cells #[.slice AS S.length cS, .slice AT T.length cT] 24)).heap[w.heap.size]? = some (.cells #[.slice AS S.length cS, .slice AT T.length cT] 24 (0, 0))) := heap_alloc_new w _
  have HB0 : Hid (Below w.heap.size w ((w.alloc (.cells #[.slice AS S.length cS, .slice AT T.length cT] 24)).alloc (.cells #[.slice AS' S'.length cS', .slice AT' T'.length cT'] 24))) := bel0 (below1 w _) (below1 _ _)
  have U0 : Hid (((w.alloc (.cells #[.slice AS S.length cS, .slice AT T.length cT] 24)).alloc (.cells #[.slice AS' S'.length cS', .slice AT' T'.length cT'] 24)).heap[w.heap.size + 1]? = some (.cells #[.slice AS' S'.length cS', .slice AT' T'.length cT'] 24 (0, 0))) := by
    have h1 : (w.alloc (.cells #[.slice AS S.length cS, .slice AT T.length cT] 24)).heap.size = w.heap.size + 1 := by simp
    show _ = _
    rw [← h1]
    exact heap_alloc_new _ _
  have HC : Hid (∀ W, Below w.heap.size w W → Calls Try.prog 15 #[.agg #[.slice AS S.length cS, .slice AT T.length cT]] W fun e w' => e = .returned (.int .i64 (chkA S T)) ∧ Below W.heap.size W w') := fun W hb => rcheckA_any W (hS.below (hb.mono hB)) (hT.below (hb.mono hB)) (Nat.le_trans hB hb.size)
  have HD : Hid (∀ W, Below w.heap.size w W → Calls Try.prog 15 #[.agg #[.slice AS' S'.length cS', .slice AT' T'.length cT']] W fun e w' => e = .returned (.int .i64 (chkA S' T')) ∧ Below W.heap.size W w') := fun W hb => rcheckA_any W (hS'.below (hb.mono hB)) (hT'.below (hb.mono hB)) (Nat.le_trans hB hb.size)
  clear hS hT hS' hT'
  unfold chk2
  by_cases h0 : chkA S T = 0
  · rw [if_pos h0]
    have hh := Lib.hid h0
    go_enter Try.func33, Try.ntmps33
    go_wp2_with (first
      | (go_at_call 15; ((with_reducible refine (HC.out _ HB0.out).mono ?_); rintro e w1 ⟨rfl, hb⟩; have HB1 := Lib.hid (bel0 HB0.out hb); have U1 := Lib.hid (block_below U0.out hb); obtain ⟨⟨t1, t2⟩, _⟩ := two_of_block U1.out; clear hb))
      | (go_at_call 15; ((with_reducible refine (HD.out _ HB1.out).mono ?_); rintro e w2 ⟨rfl, hb⟩; have HB2 := Lib.hid (bel0 HB1.out hb); clear hb))
      | fail)
    go_ret
    exact ⟨rfl, HB2.out⟩
  · rw [if_neg h0]
    go_enter Try.func33, Try.ntmps33
    go_wp2_with (first
      | (go_at_call 15; ((with_reducible refine (HC.out _ HB0.out).mono ?_); rintro e w1 ⟨rfl, hb⟩; have HB1 := Lib.hid (bel0 HB0.out hb); have U1 := Lib.hid (block_below U0.out hb); obtain ⟨⟨t1, t2⟩, _⟩ := two_of_block U1.out; clear hb))
      | fail)
    go_ret
    exact ⟨rfl, HB1.out⟩
end Go.Proofs.Ytjofmgnggeoimaa
