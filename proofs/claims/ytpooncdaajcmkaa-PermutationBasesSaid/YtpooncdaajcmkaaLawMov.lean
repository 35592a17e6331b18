/- PermutationMoves answers true for all arguments. -/
import Derived.Test.YtpooncdaajcmkaaAwkL
import Derived.Test.YtpooncdaajcmkaaMvsL
import Derived.Test.YtpooncdaajcmkaaCopL
import Derived.Deep.RegionHeld3
namespace Go.Proofs.Ytpooncdaajcmkaa
open Go.RowKit
set_option linter.unusedVariables false
set_option linter.unusedSimpArgs false

set_option maxHeartbeats 6400000 in
set_option maxRecDepth 1000000 in
theorem pmoves_walk (S T : List Int) {cS cT : Nat} {AS AT : Option Addr} (i a b c d : Int) (w : World) (hS : RdZ w w.heap.size AS cS S) (hT : RdZ w w.heap.size AT cT T) (hAS : AS = none → cS = 0) (hAT : AT = none → cT = 0) (hlS : S.length ≤ 17592186044416) (hlT : T.length ≤ 17592186044416) :
    Calls Try.prog 4 #[.agg #[.slice AS S.length cS, .slice AT T.length cT], .int .i64 i, .agg #[.int .i64 a, .int .i64 b, .int .i64 c, .int .i64 d]] w fun e w' => e = .returned (.bool true) ∧ Below w.heap.size w w' := by
  obtain ⟨x, z, hm, hr⟩ := moves_is S T i a b c d
  have HM := Lib.hid hm
  have HCo := Lib.hid (fun W (hb : Below w.heap.size w W) => copy_any W ((hS.below hb).mono hb.size) ((hT.below hb).mono hb.size) hAS hAT hlS hlT)
  have HR := Lib.hid (fun W (hb : Below w.heap.size w W) => hr W AS cS AT cT ((hS.below hb).mono hb.size) ((hT.below hb).mono hb.size))
  clear hS hT hAS hAT hm hr
  have X0 : Hid (((w.alloc (.cells #[.slice AS S.length cS, .slice AT T.length cT] 24)).alloc (.cells #[.int .i64 a, .int .i64 b, .int .i64 c, .int .i64 d] 32)).heap[w.heap.size]? = some (.cells #[.slice AS S.length cS, .slice AT T.length cT] 24 (0, 0))) := block_alloc (heap_alloc_new w _) _
  have hy0 := heap_alloc_new (w.alloc (.cells #[.slice AS S.length cS, .slice AT T.length cT] 24)) (.cells #[.int .i64 a, .int .i64 b, .int .i64 c, .int .i64 d] 32)
  rw [show (w.alloc (.cells #[.slice AS S.length cS, .slice AT T.length cT] 24)).heap.size = w.heap.size + 1 by simp] at hy0
  have Y0 := Lib.hid hy0
  have HB0 : Hid (Below w.heap.size w ((w.alloc (.cells #[.slice AS S.length cS, .slice AT T.length cT] 24)).alloc (.cells #[.int .i64 a, .int .i64 b, .int .i64 c, .int .i64 d] 32))) := below2 w _ _
  clear hy0
  go_enter Try.func4, Try.ntmps4
  go_wp2_with (first
    | (go_at_call 12; ((with_reducible refine (awake_any _).mono ?_); rintro e w1 ⟨rfl, hb⟩; have HB1 := Lib.hid (bel0 HB0.out hb); have T1 := Lib.hid (block_below X0.out hb); have U1 := Lib.hid (block_below Y0.out hb); clear hb))
    | fail)
  have D1 : Hid (Below w.heap.size w w1.drew) := HB1.out.drew
  have X1 : Hid (w1.drew.heap[w.heap.size]? = some (.cells #[.slice AS S.length cS, .slice AT T.length cT] 24 (0, 0))) := T1.out
  have Y1 : Hid (w1.drew.heap[w.heap.size + 1]? = some (.cells #[.int .i64 a, .int .i64 b, .int .i64 c, .int .i64 d] 32 (0, 0))) := U1.out
  have HK : Hid (∀ {W : World}, W.heap[w.heap.size]? = some (.cells #[.slice AS S.length cS, .slice AT T.length cT] 24 (0, 0)) → W.heap[w.heap.size + 1]? = some (.cells #[.int .i64 a, .int .i64 b, .int .i64 c, .int .i64 d] 32 (0, 0)) → (W.cell? ⟨w.heap.size, 0, none⟩ = some (.slice AS S.length cS) ∧ W.cell? ⟨w.heap.size, 1, none⟩ = some (.slice AT T.length cT)) ∧ (W.cell? ⟨w.heap.size + 1, 0, none⟩ = some (.int .i64 a) ∧ W.cell? ⟨w.heap.size + 1, 1, none⟩ = some (.int .i64 b) ∧ W.cell? ⟨w.heap.size + 1, 2, none⟩ = some (.int .i64 c) ∧ W.cell? ⟨w.heap.size + 1, 3, none⟩ = some (.int .i64 d))) := fun h h' => ⟨(two_of_block h).1, (four_of_block h').1⟩
  go_region_held3 (fun w' => (w'.cell? ⟨w.heap.size, 0, none⟩ = some (.slice AS S.length cS) ∧ w'.cell? ⟨w.heap.size, 1, none⟩ = some (.slice AT T.length cT)) ∧ (w'.cell? ⟨w.heap.size + 1, 0, none⟩ = some (.int .i64 a) ∧ w'.cell? ⟨w.heap.size + 1, 1, none⟩ = some (.int .i64 b) ∧ w'.cell? ⟨w.heap.size + 1, 2, none⟩ = some (.int .i64 c) ∧ w'.cell? ⟨w.heap.size + 1, 3, none⟩ = some (.int .i64 d)))
    (with_reducible first | exact HK.out X3.out Y3.out | exact HK.out X2.out Y2.out | exact HK.out X1.out Y1.out | fail)
    (first
      | (go_at_call 14; ((with_reducible refine (HCo.out _ D1.out).mono ?_); rintro e w2 ⟨A1, c1, A2, c2, rfl, h1, h2, hb⟩; have D2 := Lib.hid (bel0 D1.out hb); have X2 := Lib.hid (block_below X1.out hb); have Y2 := Lib.hid (block_below Y1.out hb); have H1 := Lib.hid h1; have H2 := Lib.hid h2; clear hb h1 h2))
      | (go_at_call 16; ((with_reducible refine (HM.out _ _ _ _ _ H1.out H2.out).mono ?_); rintro e w3 ⟨rfl, hb⟩; have D3 := Lib.hid (bel0 D2.out hb); have X3 := Lib.hid (block_below X2.out hb); have Y3 := Lib.hid (block_below Y2.out hb); clear hb))
      | fail)
  obtain ⟨⟨x1, x2⟩, _⟩ := two_of_block X3.out
  obtain ⟨⟨y1, y2, y3, y4⟩, _⟩ := four_of_block Y3.out
  go_wp2_with (first
    | (go_at_call 17; ((with_reducible refine (HR.out _ D3.out).mono ?_); rintro e w4 ⟨rfl, hb⟩; have HB4 := Lib.hid (bel0 D3.out hb); clear hb))
    | fail)
  go_ret
  exact ⟨rfl, HB4.out⟩
end Go.Proofs.Ytpooncdaajcmkaa
