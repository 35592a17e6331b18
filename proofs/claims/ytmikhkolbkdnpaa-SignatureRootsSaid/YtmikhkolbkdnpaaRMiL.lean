/- The reference's Minus. -/
import Derived.Test.YtmikhkolbkdnpaaSeaL
import Derived.Deep.QuietTactic
import Derived.Deep.DeepCutAuto
import Derived.Deep.CutBlock
namespace Go.Proofs.Ytmikhkolbkdnpaa
open Go.RowKit
set_option linter.unusedVariables false
set_option linter.unusedSimpArgs false

set_option maxHeartbeats 3200000 in
set_option maxRecDepth 1000000 in
theorem rminusB_any {g : Nat → Nat} {n bS oS cS : Nat} {vT : Value} (w : World) (h : RdN w w.heap.size bS oS n g) (hg : Prm g n) (h0 : 0 < n) (b : Bool) (hb : b = decide (g (g 0) = 0)) :
    Calls Try.prog 31 #[.agg #[.slice (some ⟨bS, oS, none⟩) n cS, vT]] w fun e w' => e = .returned (.bool b) ∧ Below w.heap.size w w' := by
  have T0 : Hid ((w.alloc (.cells #[.slice (some ⟨bS, oS, none⟩) n cS, vT] 24)).heap[w.heap.size]? = some (.cells #[.slice (some ⟨bS, oS, none⟩) n cS, vT] 24 (0, 0))) := heap_alloc_new w _
  have HB0 : Hid (Below w.heap.size w (w.alloc (.cells #[.slice (some ⟨bS, oS, none⟩) n cS, vT] 24))) := below1 w _
  have h1 := hg.lt 0 h0
  have hr := h.below HB0.out
  obtain ⟨W1, hW1⟩ : ∃ W1, W1 = w.alloc (.cells #[.slice (some ⟨bS, oS, none⟩) n cS, vT] 24) := ⟨_, rfl⟩
  go_enter Try.func31, Try.ntmps31
  go_wp2
  rw [← hW1] at T0 HB0 hr ⊢
  clear hW1
  have c0 : ∀ N, (W1.drewN N).cell? ⟨bS, oS + 0, none⟩ = some (.int .i64 (g 0 : Nat)) := fun N => hr.2 0 h0
  have c1 : ∀ N, (W1.drewN N).cell? ⟨bS, oS + g 0, none⟩ = some (.int .i64 (g (g 0) : Nat)) := fun N => hr.2 _ h1
  have u1 := fun N => (show (W1.drewN N).cell? ⟨w.heap.size, 0, none⟩ = _ from (two_of_block T0.out).1.1)
  have HBb : Hid (b = decide (g (g 0) = 0)) := hb
  clear hb hr h hg
  generalize g (g 0) = y at *
  generalize g 0 = x at *
  have i0 : (0 : Int) < (n : Int) := by omega
  have i1 : (x : Int) < (n : Int) := by omega
  have c0' : ∀ N, (W1.drewN N).cell? ⟨bS, oS, none⟩ = some (.int .i64 (x : Nat)) := fun N => c0 N
  by_cases hy : y = 0
  · subst hy
    have hbt : b = true := HBb.out.trans (by simp)
    subst hbt
    go_quiet (fail)
    go_wp2
    go_ret
    exact ⟨rfl, below_drewN HB0.out _⟩
  · have hbf : b = false := HBb.out.trans (by simpa using hy)
    subst hbf
    have hyb : ((y : Int) == 0) = false := by simp; omega
    go_quiet (fail)
    go_wp2
    refine bodyPost_ret (v := .bool false) ?_ rfl ⟨rfl, below_drewN HB0.out _⟩
    simp [results, Try.results31, go_sem]
end Go.Proofs.Ytmikhkolbkdnpaa
