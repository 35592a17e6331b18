/- SignatureOf answers true for all arguments. -/
import Derived.Test.YtmikhkolbkdnpaaLawSg
namespace Go.Proofs.Ytmikhkolbkdnpaa
open Go.RowKit
set_option linter.unusedVariables false
set_option linter.unusedSimpArgs false

set_option maxHeartbeats 3200000 in
set_option maxRecDepth 1000000 in
theorem sgof_walk (S T : List Int) {cS cT : Nat} {AS AT : Option Addr} (w : World) (hS : RdZ w w.heap.size AS cS S) (hT : RdZ w w.heap.size AT cT T) (hAS : AS = none → cS = 0) (hAT : AT = none → cT = 0) (hlS : S.length ≤ 17592186044416) (hlT : T.length ≤ 17592186044416) :
    Calls Try.prog 3 #[.agg #[.slice AS S.length cS, .slice AT T.length cT]] w fun e w' => e = .returned (.bool true) ∧ Below w.heap.size w w' := by
  have T0 : Hid ((w.alloc (.cells #[.slice AS S.length cS, .slice AT T.length cT] 24)).heap[w.heap.size]? = some (.cells #[.slice AS S.length cS, .slice AT T.length cT] 24 (0, 0))) := heap_alloc_new w _
  have HB0 : Hid (Below w.heap.size w (w.alloc (.cells #[.slice AS S.length cS, .slice AT T.length cT] 24))) := below1 w _
  have HCo := Lib.hid (fun W (hb : Below w.heap.size w W) => copy_any W ((hS.below hb).mono hb.size) ((hT.below hb).mono hb.size) hAS hAT hlS hlT)
  have HOf := Lib.hid (fun (W : World) A c A' c' (h1 : RdZ W W.heap.size A c S) (h2 : RdZ W W.heap.size A' c' T) => sof_any W h1 h2 (Nat.le_refl _))
  have HRf := Lib.hid (fun W (hb : Below w.heap.size w W) => rof_any W (hS.below hb) (hT.below hb) hb.size)
  have HSg : Hid (sgX S T = .agg #[.int .i64 (ixS S T), .int .i64 (gnS S T), .int .i64 (n2S S T), .int .i64 (n3S S T), .int .i64 (cuS S T), .int .i64 (irS S T), .bool (miS S T)]) := rfl
  rw [HSg.out] at HOf HRf
  clear HSg hS hT
  generalize ixS S T = x0 at *
  generalize gnS S T = x1 at *
  generalize n2S S T = x2 at *
  generalize n3S S T = x3 at *
  generalize cuS S T = x4 at *
  generalize irS S T = x5 at *
  generalize miS S T = x6 at *
  generalize chkA S T = z at *
  go_enter Try.func3, Try.ntmps3
  go_wp2_with (first
    | (go_at_call 10; ((with_reducible refine (awake_any _).mono ?_); rintro e w1 ⟨rfl, hb⟩; have HB1 := Lib.hid (bel0 HB0.out hb); have T1 := Lib.hid (block_below T0.out hb); obtain ⟨⟨t1, t2⟩, _⟩ := two_of_block T1.out; clear hb))
    | (go_at_call 12; ((with_reducible refine (HCo.out _ HB1.out).mono ?_); rintro e w2 ⟨A1, c1, A2, c2, rfl, h1, h2, hb⟩; have HB2 := Lib.hid (bel0 HB1.out hb); have T2 := Lib.hid (block_below T1.out hb); have H1 := Lib.hid h1; have H2 := Lib.hid h2; clear hb h1 h2))
    | (go_at_call 11; ((with_reducible refine (HOf.out _ _ _ _ _ H1.out H2.out).mono ?_); rintro e w3 ⟨rfl, hb⟩; have HB3 : Hid (Below w.heap.size w (w3.alloc (.cells #[.int .i64 x0, .int .i64 x1, .int .i64 x2, .int .i64 x3, .int .i64 x4, .int .i64 x5, .bool x6] 27))) := (bel0 HB2.out hb).alloc (bel0 HB2.out hb).size _; have T3 := Lib.hid (block_alloc (block_below T2.out hb) (.cells #[.int .i64 x0, .int .i64 x1, .int .i64 x2, .int .i64 x3, .int .i64 x4, .int .i64 x5, .bool x6] 27)); have P3 := Lib.hid (heap_alloc_new w3 (.cells #[.int .i64 x0, .int .i64 x1, .int .i64 x2, .int .i64 x3, .int .i64 x4, .int .i64 x5, .bool x6] 27)); clear t1 t2; obtain ⟨⟨t1, t2⟩, _⟩ := two_of_block T3.out; clear hb))
    | (go_at_call 13; ((with_reducible refine (HRf.out _ HB3.out).mono ?_); rintro e w4 ⟨rfl, hb⟩; have HB4 : Hid (Below w.heap.size w (w4.alloc (.cells #[.int .i64 x0, .int .i64 x1, .int .i64 x2, .int .i64 x3, .int .i64 x4, .int .i64 x5, .bool x6] 27))) := (bel0 HB3.out hb).alloc (bel0 HB3.out hb).size _; have P4 := Lib.hid (block_alloc (block_below P3.out hb) (.cells #[.int .i64 x0, .int .i64 x1, .int .i64 x2, .int .i64 x3, .int .i64 x4, .int .i64 x5, .bool x6] 27)); clear t1 t2 hb; obtain ⟨⟨a0, a1, a2, a3, a4, a5, a6⟩, _⟩ := seven_of_block P4.out))
    | fail)
  go_ret
  exact ⟨rfl, HB4.out⟩
end Go.Proofs.Ytmikhkolbkdnpaa
