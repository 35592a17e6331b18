/- CuspsClasses answers true for all arguments. -/
import Derived.Test.YtoledgfclmddmaaRCl2L
import Derived.Test.YtoledgfclmddmaaSamL
import Derived.Test.YtoledgfclmddmaaCopL
import Derived.Test.YtoledgfclmddmaaAwakeL
namespace Go.Proofs.Ytoledgfclmddmaa
open Go.RowKit
set_option linter.unusedVariables false
set_option linter.unusedSimpArgs false

theorem clP_len (S T : List Int) : (clP S T).length ≤ 1152 := by
  by_cases h : chkA S T = 0
  · rw [clP_ok h]
    have ha := chkA_zero h
    have := (cst_inv ha.pt (rel_inv ha.ps ha.pt ha.rel) S.length (Nat.le_refl _)).len
    have := ha.le
    omega
  · rw [clP_bad h]; simp
set_option maxHeartbeats 6400000 in
set_option maxRecDepth 1000000 in
theorem lclasses_walk (S T : List Int) {cS cT : Nat} {AS AT : Option Addr} (w : World) (hS : RdZ w w.heap.size AS cS S) (hT : RdZ w w.heap.size AT cT T) (hAS : AS = none → cS = 0) (hAT : AT = none → cT = 0) (hlS : S.length ≤ 17592186044416) (hlT : T.length ≤ 17592186044416) :
    Calls Try.prog 3 #[.agg #[.slice AS S.length cS, .slice AT T.length cT]] w fun e w' => e = .returned (.bool true) ∧ Below w.heap.size w w' := by
  have T0 : Hid ((w.alloc (.cells #[.slice AS S.length cS, .slice AT T.length cT] 24)).heap[w.heap.size]? = some (.cells #[.slice AS S.length cS, .slice AT T.length cT] 24 (0, 0))) := heap_alloc_new w _
  have HB0 : Hid (Below w.heap.size w (w.alloc (.cells #[.slice AS S.length cS, .slice AT T.length cT] 24))) := below1 w _
  have HCo := Lib.hid (fun W (hb : Below w.heap.size w W) => copy_any W ((hS.below hb).mono hb.size) ((hT.below hb).mono hb.size) hAS hAT hlS hlT)
  have HC : Hid (∀ (W : World) A c A' c', RdZ W W.heap.size A c S → RdZ W W.heap.size A' c' T → Calls Try.prog 8 #[.agg #[.slice A S.length c, .slice A' T.length c']] W fun e w' => ∃ A c, e = .returned (.tuple #[.slice A (clP S T).length c, .int .i64 (chkA S T)]) ∧ w'.ownsRow W.heap.size 46 3 (.slice A (clP S T).length c) (clP S T).length (ccs (wdF S T) (rgF S T) (clP S T)) ∧ Below W.heap.size W w') := fun W A c A' c' h1 h2 => cclasses_any W h1 h2 (Nat.le_refl _)
  have HR := Lib.hid (fun W (hb : Below w.heap.size w W) => rclasses2_any W (hS.below hb) (hT.below hb) hb.size)
  have hPl := clP_len S T
  clear hS hT hAS hAT
  generalize clP S T = P at *
  generalize wdF S T = W0 at *
  generalize rgF S T = R0 at *
  generalize chkA S T = z at *
  go_enter Try.func3, Try.ntmps3
  go_wp2_with (first
    | (go_at_call 7; ((with_reducible refine (awake_any _).mono ?_); rintro e w1 ⟨rfl, hb⟩; have HB1 := Lib.hid (bel0 HB0.out hb); have T1 := Lib.hid (block_below T0.out hb); obtain ⟨⟨t1, t2⟩, _⟩ := two_of_block T1.out; clear hb))
    | (go_at_call 9; ((with_reducible refine (HCo.out _ HB1.out).mono ?_); rintro e w2 ⟨A1, c1, A2, c2, rfl, h1, h2, hb⟩; have HB2 := Lib.hid (bel0 HB1.out hb); have T2 := Lib.hid (block_below T1.out hb); have H1 := Lib.hid h1; have H2 := Lib.hid h2; clear t1 t2; obtain ⟨⟨t1, t2⟩, _⟩ := two_of_block T2.out; clear hb h1 h2))
    | (go_at_call 8; ((with_reducible refine (HC.out _ _ _ _ _ H1.out H2.out).mono ?_); rintro e w3 ⟨A3, c3, rfl, ho, hb⟩; have HB3 := Lib.hid (bel0 HB2.out hb); have T3 := Lib.hid (block_below T2.out hb); have HO3 := Lib.hid ho; clear t1 t2; obtain ⟨⟨t1, t2⟩, _⟩ := two_of_block T3.out; clear hb ho))
    | (go_at_call 10; ((with_reducible refine (HR.out _ HB3.out).mono ?_); rintro e w4 ⟨A4, c4, rfl, ho, hb⟩; have HB4 := Lib.hid (bel0 HB3.out hb); have HO3' := Lib.hid (own_below HO3.out hb); have HO4 := Lib.hid ho; clear t1 t2 hb ho))
    | (go_at_call 11; ((with_reducible refine (same24 _ HO3'.out HO4.out hPl).mono ?_); rintro e w5 ⟨rfl, hb⟩; have HB5 := Lib.hid (bel0 HB4.out hb); clear hb))
    | fail)
  go_ret
  exact ⟨rfl, HB5.out⟩
end Go.Proofs.Ytoledgfclmddmaa
