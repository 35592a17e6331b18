/- PermutationChecks answers true for all arguments. -/
import Derived.Test.YtpooncdaajcmkaaAwkL
import Derived.Test.YtpooncdaajcmkaaCopL
import Derived.Deep.RegionHeld3
namespace Go.Proofs.Ytpooncdaajcmkaa
open Go.RowKit
set_option linter.unusedVariables false
set_option linter.unusedSimpArgs false

set_option maxHeartbeats 6400000 in
set_option maxRecDepth 1000000 in
theorem pchecks_walk (S T : List Int) {cS cT : Nat} {AS AT : Option Addr} (w : World) (hS : RdZ w w.heap.size AS cS S) (hT : RdZ w w.heap.size AT cT T) (hAS : AS = none → cS = 0) (hAT : AT = none → cT = 0) (hlS : S.length ≤ 17592186044416) (hlT : T.length ≤ 17592186044416) :
    Calls Try.prog 3 #[.agg #[.slice AS S.length cS, .slice AT T.length cT]] w fun e w' => e = .returned (.bool true) ∧ Below w.heap.size w w' := by
  have T0 : Hid ((w.alloc (.cells #[.slice AS S.length cS, .slice AT T.length cT] 24)).heap[w.heap.size]? = some (.cells #[.slice AS S.length cS, .slice AT T.length cT] 24 (0, 0))) := heap_alloc_new w _
  have HB0 : Hid (Below w.heap.size w (w.alloc (.cells #[.slice AS S.length cS, .slice AT T.length cT] 24))) := below1 w _
  have HCo := Lib.hid (fun W (hb : Below w.heap.size w W) => copy_any W ((hS.below hb).mono hb.size) ((hT.below hb).mono hb.size) hAS hAT hlS hlT)
  have HC : Hid (∀ (W : World) A c A' c', RdZ W W.heap.size A c S → RdZ W W.heap.size A' c' T → Calls Try.prog 13 #[.agg #[.slice A S.length c, .slice A' T.length c']] W fun e w' => e = .returned (.int .i64 (chkA S T)) ∧ Below W.heap.size W w') := fun W A c A' c' h1 h2 => pcheck_any W h1 h2 (Nat.le_refl _)
  have HR := Lib.hid (fun W (hb : Below w.heap.size w W) => rcheckA_any W (hS.below hb) (hT.below hb) hb.size)
  clear hS hT hAS hAT
  generalize chkA S T = z at *
  go_enter Try.func3, Try.ntmps3
  go_wp2_with (first
    | (go_at_call 12; ((with_reducible refine (awake_any _).mono ?_); rintro e w1 ⟨rfl, hb⟩; have HB1 := Lib.hid (bel0 HB0.out hb); have T1 := Lib.hid (block_below T0.out hb); obtain ⟨⟨t1, t2⟩, _⟩ := two_of_block T1.out; clear hb))
    | fail)
  have D1 : Hid (Below w.heap.size w w1.drew) := HB1.out.drew
  have X1 : Hid (w1.drew.heap[w.heap.size]? = some (.cells #[.slice AS S.length cS, .slice AT T.length cT] 24 (0, 0))) := T1.out
  have HK : Hid (∀ {W : World}, W.heap[w.heap.size]? = some (.cells #[.slice AS S.length cS, .slice AT T.length cT] 24 (0, 0)) → W.cell? ⟨w.heap.size, 0, none⟩ = some (.slice AS S.length cS) ∧ W.cell? ⟨w.heap.size, 1, none⟩ = some (.slice AT T.length cT)) := fun h => (two_of_block h).1
  go_region_held3 (fun w' => w'.cell? ⟨w.heap.size, 0, none⟩ = some (.slice AS S.length cS) ∧ w'.cell? ⟨w.heap.size, 1, none⟩ = some (.slice AT T.length cT))
    (with_reducible first | exact HK.out X4.out | exact HK.out X3.out | exact HK.out X2.out | exact HK.out X1.out | fail)
    (first
      | (go_at_call 14; ((with_reducible refine (HCo.out _ D1.out).mono ?_); rintro e w2 ⟨A1, c1, A2, c2, rfl, h1, h2, hb⟩; have D2 := Lib.hid (bel0 D1.out hb); have X2 := Lib.hid (block_below X1.out hb); have H1 := Lib.hid h1; have H2 := Lib.hid h2; clear hb h1 h2))
      | (go_at_call 13; ((with_reducible refine (HC.out _ _ _ _ _ H1.out H2.out).mono ?_); rintro e w3 ⟨rfl, hb⟩; have D3 := Lib.hid (bel0 D2.out hb); have X3 := Lib.hid (block_below X2.out hb); clear hb))
      | (go_at_call 15; ((with_reducible refine (HR.out _ D3.out).mono ?_); rintro e w4 ⟨rfl, hb⟩; have D4 := Lib.hid (bel0 D3.out hb); have X4 := Lib.hid (block_below X3.out hb); clear hb))
      | fail)
  go_wp2
  go_ret
  exact ⟨rfl, D4.out⟩
end Go.Proofs.Ytpooncdaajcmkaa
