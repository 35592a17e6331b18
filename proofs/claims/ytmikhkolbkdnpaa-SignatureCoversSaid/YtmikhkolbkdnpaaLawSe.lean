/- SignatureEuler answers true for all arguments. -/
import Derived.Test.YtmikhkolbkdnpaaLawSg
namespace Go.Proofs.Ytmikhkolbkdnpaa
open Go.RowKit
set_option linter.unusedVariables false
set_option linter.unusedSimpArgs false

set_option maxHeartbeats 3200000 in
set_option maxRecDepth 1000000 in
theorem euler_bad {S T : List Int} {B cS cT : Nat} {AS AT : Option Addr} (w : World) (hS : RdZ w B AS cS S) (hT : RdZ w B AT cT T) (hB : B ≤ w.heap.size) (z : Int) (hz : chkA S T = z) (hz0 : z ≠ 0) :
    Calls Try.prog 14 #[.agg #[.slice AS S.length cS, .slice AT T.length cT]] w fun e w' => e = .returned (.tuple #[.int .i64 0, .int .i64 z]) ∧ Below w.heap.size w w' := by
  have HCk : Hid (∀ W, Below w.heap.size w W → Calls Try.prog 34 #[.agg #[.slice AS S.length cS, .slice AT T.length cT]] W fun e w' => e = .returned (.int .i64 z) ∧ Below W.heap.size W w') := fun W hb => by
    have := pcheck_any W (hS.below (hb.mono hB)) (hT.below (hb.mono hB)) (Nat.le_trans hB hb.size)
    rwa [hz] at this
  clear hS hT hz
  have HB0 : Hid (Below w.heap.size w (w.alloc (.cells #[.slice AS S.length cS, .slice AT T.length cT] 24))) := below1 w _
  have hzb : (z == 0) = false := by simpa using hz0
  go_enter Try.func14, Try.ntmps14
  go_wp2_with (first
    | (go_at_call 34; ((with_reducible refine (HCk.out _ HB0.out).mono ?_); rintro e w1 ⟨rfl, hb⟩; have HB1 := Lib.hid (bel0 HB0.out hb); clear hb))
    | fail)
  go_ret2
  exact ⟨rfl, HB1.out⟩
/-- What the numbers of a signature obey. -/
structure SgF (S T : List Int) (ix gn n2 n3 cu ir : Int) (mi : Bool) : Prop where
  e : eulZ (fnz S) (fnz T) S.length = 2 - 2 * gn
  g0 : 0 ≤ gn
  gg : 12 * gn = 12 + ix - 3 * n2 - 4 * n3 - 6 * cu
  i0 : 1 ≤ ix
  i1 : ix ≤ 1152
  a0 : 0 ≤ n2
  a1 : n2 ≤ 1152
  b0 : 0 ≤ n3
  b1 : n3 ≤ 1152
  c0 : 0 ≤ cu
  c1 : cu ≤ 1152
  r0 : 0 ≤ ir
  r1 : ir ≤ cu
  my : mi = true → ir = 0
  mn : mi = false → n2 = 0
theorem clP_lt {S T : List Int} (ha : Act2 S T) : ∀ p ∈ clP S T, p < S.length := by
  rw [clP_ok (chkA_ok ha)]
  exact (cst_reps ha.pt (rel_inv ha.ps ha.pt ha.rel)).lt
theorem sgF_of {S T : List Int} (ha : Act2 S T) : SgF S T (ixS S T) (gnS S T) (n2S S T) (n3S S T) (cuS S T) (irS S T) (miS S T) := by
  have hA := pact_of ha
  have hz := rel_inv ha.ps ha.pt ha.rel
  have h3 : ∀ i, i < S.length → fnz T (fnz S (fnz T (fnz S (fnz T (fnz S i))))) = fnz S (fnz S i) := fun i hi => (ha.rel i hi).2
  have hc := chkA_ok ha
  have hcu : cuS S T = (cuZ (fnz S) (fnz T) S.length : Nat) := by unfold cuS; rw [clP_ok hc]; rfl
  have e1 : ixS S T = (mO (fnz S) S.length : Nat) := if_pos hc
  have e2 : gnS S T = gnZ (fnz S) (fnz T) S.length := if_pos hc
  have e3 : n2S S T = (n2Z (fnz S) S.length : Nat) := if_pos hc
  have e4 : n3S S T = (n3Z (fnz S) (fnz T) S.length : Nat) := if_pos hc
  have e5 : miS S T = mnB S := if_pos hc
  have hir : irS S T ≤ cuS S T := by have := irL_le (rgF S T) (clP S T); unfold irS cuS; omega
  obtain ⟨g1, g2, g3⟩ := hA.genus hz h3
  obtain ⟨b1, b2, b3⟩ := hA.sbd hz
  have hm := hA.mle
  have hle := ha.le
  have hmp := hA.mpos
  have hmy : miS S T = true → irS S T = 0 := fun h => by
    rw [e5] at h
    unfold irS irL
    rw [List.filter_eq_nil_iff.2 fun p hp => by rw [(rg_minus ha (clP_lt ha p hp) h).1]; simp]
    rfl
  have hmn : miS S T = false → n2S S T = 0 := fun h => by
    rw [e5] at h
    rw [e3, hA.no2 (by simpa [mnB] using h)]
    rfl
  have hir0 : 0 ≤ irS S T := by unfold irS; omega
  rw [e2, e1, e3, e4, hcu]
  rw [hcu] at hir
  exact ⟨g1, g2, g3, by omega, by omega, by omega, by omega, by omega, by omega, by omega, by omega, hir0, hir, fun h => hmy h, fun h => by rw [← e3]; exact hmn h⟩
set_option maxHeartbeats 6400000 in
set_option maxRecDepth 1000000 in
theorem sgeul_bad (S T : List Int) {cS cT : Nat} {AS AT : Option Addr} (w : World) (hS : RdZ w w.heap.size AS cS S) (hT : RdZ w w.heap.size AT cT T) (z : Int) (hz : chkA S T = z) (hz0 : z ≠ 0) :
    Calls Try.prog 4 #[.agg #[.slice AS S.length cS, .slice AT T.length cT]] w fun e w' => e = .returned (.bool true) ∧ Below w.heap.size w w' := by
  have T0 : Hid ((w.alloc (.cells #[.slice AS S.length cS, .slice AT T.length cT] 24)).heap[w.heap.size]? = some (.cells #[.slice AS S.length cS, .slice AT T.length cT] 24 (0, 0))) := heap_alloc_new w _
  have HB0 : Hid (Below w.heap.size w (w.alloc (.cells #[.slice AS S.length cS, .slice AT T.length cT] 24))) := below1 w _
  have HOf := Lib.hid (fun W (hb : Below w.heap.size w W) => sof_bad W (hS.below hb) (hT.below hb) hb.size z hz hz0)
  have HEu := Lib.hid (fun W (hb : Below w.heap.size w W) => euler_bad W (hS.below hb) (hT.below hb) hb.size z hz hz0)
  have hzb : (z == 0) = false := by simpa using hz0
  clear hS hT hz
  go_enter Try.func4, Try.ntmps4
  go_wp2_with (first
    | (go_at_call 10; ((with_reducible refine (awake_any _).mono ?_); rintro e w1 ⟨rfl, hb⟩; have HB1 := Lib.hid (bel0 HB0.out hb); have T1 := Lib.hid (block_below T0.out hb); obtain ⟨⟨t1, t2⟩, _⟩ := two_of_block T1.out; clear hb))
    | (go_at_call 11; ((with_reducible refine (HOf.out _ HB1.out).mono ?_); rintro e w3 ⟨rfl, hb⟩; have HB3 : Hid (Below w.heap.size w (w3.alloc (.cells #[.int .i64 0, .int .i64 0, .int .i64 0, .int .i64 0, .int .i64 0, .int .i64 0, .bool false] 27))) := (bel0 HB1.out hb).alloc (bel0 HB1.out hb).size _; have T3 := Lib.hid (block_alloc (block_below T1.out hb) (.cells #[.int .i64 0, .int .i64 0, .int .i64 0, .int .i64 0, .int .i64 0, .int .i64 0, .bool false] 27)); clear t1 t2; obtain ⟨⟨t1, t2⟩, _⟩ := two_of_block T3.out; clear hb))
    | (go_at_call 14; ((with_reducible refine (HEu.out _ HB3.out).mono ?_); rintro e w4 ⟨rfl, hb⟩; have HB4 := Lib.hid (bel0 HB3.out hb); clear t1 t2 hb))
    | fail)
  go_ret
  exact ⟨rfl, HB4.out⟩
set_option maxHeartbeats 6400000 in
set_option maxRecDepth 1000000 in
theorem sgeul_ok (S T : List Int) {bS oS bT oT cS cT : Nat} (w : World) (h : AI w w.heap.size bS oS bT oT S T cS cT) :
    Calls Try.prog 4 #[.agg #[.slice (some ⟨bS, oS, none⟩) S.length cS, .slice (some ⟨bT, oT, none⟩) S.length cT]] w fun e w' => e = .returned (.bool true) ∧ Below w.heap.size w w' := by
  have T0 : Hid ((w.alloc (.cells #[.slice (some ⟨bS, oS, none⟩) S.length cS, .slice (some ⟨bT, oT, none⟩) S.length cT] 24)).heap[w.heap.size]? = some (.cells #[.slice (some ⟨bS, oS, none⟩) S.length cS, .slice (some ⟨bT, oT, none⟩) S.length cT] 24 (0, 0))) := heap_alloc_new w _
  have HB0 : Hid (Below w.heap.size w (w.alloc (.cells #[.slice (some ⟨bS, oS, none⟩) S.length cS, .slice (some ⟨bT, oT, none⟩) S.length cT] 24))) := below1 w _
  have HOf := Lib.hid (fun W (hb : Below w.heap.size w W) => sof_ok W (h.below hb))
  have HEu := Lib.hid (fun W (hb : Below w.heap.size w W) => euler_any W (h.below hb))
  have HSg : Hid (sgA S T = .agg #[.int .i64 (ixS S T), .int .i64 (gnS S T), .int .i64 (n2S S T), .int .i64 (n3S S T), .int .i64 (cuS S T), .int .i64 (irS S T), .bool (miS S T)]) := (sgX_ok (chkA_ok h.act)).symm
  have hF := sgF_of h.act
  rw [HSg.out] at HOf
  rw [hF.e] at HEu
  obtain ⟨_, f1, f2, f3, f4, f5, f6, f7, f8, f9, f10, f11, f12, f13, f14⟩ := hF
  clear HSg h
  generalize ixS S T = x0 at *
  generalize gnS S T = x1 at *
  generalize n2S S T = x2 at *
  generalize n3S S T = x3 at *
  generalize cuS S T = x4 at *
  generalize irS S T = x5 at *
  generalize miS S T = x6 at *
  have hq : (12 * x1 == 12 + x0 - 3 * x2 - 4 * x3 - 6 * x4) = true := by rw [beq_iff_eq]; exact f2
  have hx1 : x1 ≤ 1000 := by omega
  have hx5 : x5 ≤ 1152 := by omega
  have HF13 := Lib.hid f13
  have HF14 := Lib.hid f14
  clear f2 f13 f14
  go_enter Try.func4, Try.ntmps4
  go_upto_region 7 with (first
    | (go_at_call 10; ((with_reducible refine (awake_any _).mono ?_); rintro e w1 ⟨rfl, hb⟩; have HB1 := Lib.hid (bel0 HB0.out hb); have T1 := Lib.hid (block_below T0.out hb); obtain ⟨⟨t1, t2⟩, _⟩ := two_of_block T1.out; clear hb))
    | (go_at_call 11; ((with_reducible refine (HOf.out _ HB1.out).mono ?_); rintro e w3 ⟨rfl, hb⟩; have HB3 : Hid (Below w.heap.size w (w3.alloc (.cells #[.int .i64 x0, .int .i64 x1, .int .i64 x2, .int .i64 x3, .int .i64 x4, .int .i64 x5, .bool x6] 27))) := (bel0 HB1.out hb).alloc (bel0 HB1.out hb).size _; have T3 := Lib.hid (block_alloc (block_below T1.out hb) (.cells #[.int .i64 x0, .int .i64 x1, .int .i64 x2, .int .i64 x3, .int .i64 x4, .int .i64 x5, .bool x6] 27)); have P3 := Lib.hid (heap_alloc_new w3 (.cells #[.int .i64 x0, .int .i64 x1, .int .i64 x2, .int .i64 x3, .int .i64 x4, .int .i64 x5, .bool x6] 27)); clear t1 t2; obtain ⟨⟨t1, t2⟩, _⟩ := two_of_block T3.out; clear hb))
    | (go_at_call 14; ((with_reducible refine (HEu.out _ HB3.out).mono ?_); rintro e w4 ⟨rfl, hb⟩; have HB4 := Lib.hid (bel0 HB3.out hb); have P4 := Lib.hid (block_below P3.out hb); clear t1 t2 hb))
    | fail)
  cases x6 with
  | true =>
    have hx : x5 = 0 := HF13.out rfl
    subst hx
    obtain ⟨⟨a0, a1, a2, a3, a4, a5, a6⟩, _⟩ := seven_of_block P4.out
    go_wp2
    go_ret
    exact ⟨rfl, HB4.out⟩
  | false =>
    have hx : x2 = 0 := HF14.out rfl
    subst hx
    have hq2 : (12 * x1 == 12 + x0 - 4 * x3 - 6 * x4) = true := by rw [beq_iff_eq]; have := beq_iff_eq.1 hq; omega
    clear hq
    obtain ⟨⟨a0, a1, a2, a3, a4, a5, a6⟩, _⟩ := seven_of_block P4.out
    go_wp2
    go_ret
    exact ⟨rfl, HB4.out⟩
theorem sgeul_walk (S T : List Int) {cS cT : Nat} {AS AT : Option Addr} (w : World) (hS : RdZ w w.heap.size AS cS S) (hT : RdZ w w.heap.size AT cT T) :
    Calls Try.prog 4 #[.agg #[.slice AS S.length cS, .slice AT T.length cT]] w fun e w' => e = .returned (.bool true) ∧ Below w.heap.size w w' := by
  by_cases h : chkA S T = 0
  · have ha := chkA_zero h
    obtain ⟨bS, oS, bT, oT, rfl, rfl, hai⟩ := AI.mk' ha hS hT (Nat.le_refl _)
    rw [ha.len]
    exact sgeul_ok S T w hai
  · exact sgeul_bad S T w hS hT _ rfl h
end Go.Proofs.Ytmikhkolbkdnpaa
