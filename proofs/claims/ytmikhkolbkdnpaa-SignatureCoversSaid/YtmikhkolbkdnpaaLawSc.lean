/- SignatureCovers answers true for all arguments. -/
import Derived.Test.YtmikhkolbkdnpaaLawSe
import Derived.Test.YtmikhkolbkdnpaaSgcM
import Derived.Test.YtmikhkolbkdnpaaIwL
namespace Go.Proofs.Ytmikhkolbkdnpaa
open Go.RowKit
set_option linter.unusedVariables false
set_option linter.unusedSimpArgs false

/-- What the signatures of a group and of one that it lies within obey. -/
structure SgCv (x0 x1 x4 : Int) (x6 : Bool) (y0 y1 y4 : Int) (y6 : Bool) : Prop where
  p0 : 1 ≤ y0
  m0 : x0.tmod y0 = 0
  g : y1 ≤ x1
  c : y4 ≤ x4
  m : x6 = true → y6 = true
theorem sgCv_of {S T S' T' : List Int} (ha : Act2 S T) (hb : Act2 S' T') (hx : xN S T S' T' ≤ S.length) : SgCv (ixS S T) (gnS S T) (cuS S T) (miS S T) (ixS S' T') (gnS S' T') (cuS S' T') (miS S' T') := by
  have hA := pact_of ha
  have hB := pact_of hb
  have za := rel_inv ha.ps ha.pt ha.rel
  have zb := rel_inv hb.ps hb.pt hb.rel
  have a3 : ∀ i, i < S.length → fnz T (fnz S (fnz T (fnz S (fnz T (fnz S i))))) = fnz S (fnz S i) := fun i hi => (ha.rel i hi).2
  have b3 : ∀ i, i < S'.length → fnz T' (fnz S' (fnz T' (fnz S' (fnz T' (fnz S' i))))) = fnz S' (fnz S' i) := fun i hi => (hb.rel i hi).2
  have hca := chkA_ok ha
  have hcb := chkA_ok hb
  obtain ⟨φ, h0, hC⟩ := two_cover hA hB hx
  obtain ⟨d, hD⟩ := hC.sig
  have ec : ∀ {S T : List Int}, Act2 S T → cuS S T = (cuZ (fnz S) (fnz T) S.length : Nat) := fun {S T} h => by unfold cuS; rw [clP_ok (chkA_ok h)]; rfl
  have e1 : ixS S T = (mO (fnz S) S.length : Nat) := if_pos hca
  have e2 : gnS S T = gnZ (fnz S) (fnz T) S.length := if_pos hca
  have e5 : miS S T = mnB S := if_pos hca
  have e1' : ixS S' T' = (mO (fnz S') S'.length : Nat) := if_pos hcb
  have e2' : gnS S' T' = gnZ (fnz S') (fnz T') S'.length := if_pos hcb
  have e5' : miS S' T' = mnB S' := if_pos hcb
  rw [e1, e2, e5, e1', e2', e5', ec ha, ec hb]
  have hp := hB.mpos
  refine ⟨by omega, ?_, hD.genus hA hB za zb a3 b3, ?_, fun h => ?_⟩
  · rw [hD.ix]
    exact Int.tmod_eq_zero_of_dvd ⟨(d : Int), by rw [Int.natCast_mul]⟩
  · have := hD.t2
    rw [hA.cu za, hB.cu zb] at this
    omega
  · have h1 : fnz S (fnz S 0) = 0 := by simpa [mnB] using h
    have h2 := hC.cg _ (hA.gp.lt 0 hA.pos)
    rw [hC.cg 0 hA.pos, h1, h0] at h2
    simp [mnB, ← h2]
set_option maxHeartbeats 6400000 in
set_option maxRecDepth 1000000 in
theorem sgcov_bad (S T S' T' : List Int) {cS cT cS' cT' : Nat} {AS AT AS' AT' : Option Addr} (w : World) (hS : RdZ w w.heap.size AS cS S) (hT : RdZ w w.heap.size AT cT T) (hS' : RdZ w w.heap.size AS' cS' S') (hT' : RdZ w w.heap.size AT' cT' T') (z : Int) (hz : chk2 S T S' T' = z) (hz0 : z ≠ 0) :
    Calls Try.prog 6 #[.agg #[.slice AS S.length cS, .slice AT T.length cT], .agg #[.slice AS' S'.length cS', .slice AT' T'.length cT']] w fun e w' => e = .returned (.bool true) ∧ Below w.heap.size w w' := by
  have HB0 := Lib.hid (B2.start w #[.slice AS S.length cS, .slice AT T.length cT] #[.slice AS' S'.length cS', .slice AT' T'.length cT'])
  have HSg : Hid (sgX S T = .agg #[.int .i64 (ixS S T), .int .i64 (gnS S T), .int .i64 (n2S S T), .int .i64 (n3S S T), .int .i64 (cuS S T), .int .i64 (irS S T), .bool (miS S T)]) := rfl
  have HSg' : Hid (sgX S' T' = .agg #[.int .i64 (ixS S' T'), .int .i64 (gnS S' T'), .int .i64 (n2S S' T'), .int .i64 (n3S S' T'), .int .i64 (cuS S' T'), .int .i64 (irS S' T'), .bool (miS S' T')]) := rfl
  have HWi := Lib.hid (fun W (hb : Below w.heap.size w W) => pwithin_any W ((hS.below hb).mono hb.size) ((hT.below hb).mono hb.size) ((hS'.below hb).mono hb.size) ((hT'.below hb).mono hb.size))
  have HOf := Lib.hid (fun W (hb : Below w.heap.size w W) => sof_any W (hS.below hb) (hT.below hb) hb.size)
  have HOg := Lib.hid (fun W (hb : Below w.heap.size w W) => sof_any W (hS'.below hb) (hT'.below hb) hb.size)
  rw [HSg.out] at HOf
  rw [HSg'.out] at HOg
  rw [hz] at HWi
  generalize decide (z = 0 ∧ xN S T S' T' ≤ S.length) = u at *
  have hzb : (z == 0) = false := by simpa using hz0
  clear hz
  generalize chkA S T = za at *
  generalize chkA S' T' = zb at *
  clear HSg HSg' hS hT hS' hT'
  generalize ixS S T = x0 at *
  generalize gnS S T = x1 at *
  generalize n2S S T = x2 at *
  generalize n3S S T = x3 at *
  generalize cuS S T = x4 at *
  generalize irS S T = x5 at *
  generalize miS S T = x6 at *
  generalize ixS S' T' = y0 at *
  generalize gnS S' T' = y1 at *
  generalize n2S S' T' = y2 at *
  generalize n3S S' T' = y3 at *
  generalize cuS S' T' = y4 at *
  generalize irS S' T' = y5 at *
  generalize miS S' T' = y6 at *
  go_enter Try.func6, Try.ntmps6
  obtain ⟨W0, hW0⟩ : ∃ W0, W0 = (w.alloc (.cells #[.slice AS S.length cS, .slice AT T.length cT] 24)).alloc (.cells #[.slice AS' S'.length cS', .slice AT' T'.length cT'] 24) := ⟨_, rfl⟩
  go_upto_region 1 with fail
  rw [← hW0] at HB0 ⊢
  clear hW0
  go_upto_region 6 with (first
    | (go_at_call 10; ((with_reducible refine (awake_any _).mono ?_); rintro e w1 ⟨rfl, hb⟩; have HB1 := Lib.hid (HB0.out.below hb); obtain ⟨⟨t1, t2⟩, _⟩ := two_of_block HB1.out.p; obtain ⟨⟨t3, t4⟩, _⟩ := two_of_block HB1.out.q; clear hb))
    | (go_at_call 16; ((with_reducible refine (HWi.out _ HB1.out.bel).mono ?_); rintro e w2 ⟨rfl, hb⟩; have HB2 := Lib.hid (HB1.out.below hb); clear t1 t2 t3 t4; obtain ⟨⟨t1, t2⟩, _⟩ := two_of_block HB2.out.p; obtain ⟨⟨t3, t4⟩, _⟩ := two_of_block HB2.out.q; clear hb))
    | (go_at_call 11; first
      | ((with_reducible refine (HOf.out _ HB2.out.bel).mono ?_); rintro e w3 ⟨rfl, hb⟩; have HB3 := Lib.hid ((HB2.out.below hb).below (below1 w3 (.cells #[.int .i64 x0, .int .i64 x1, .int .i64 x2, .int .i64 x3, .int .i64 x4, .int .i64 x5, .bool x6] 27))); have P3 := Lib.hid (heap_alloc_new w3 (.cells #[.int .i64 x0, .int .i64 x1, .int .i64 x2, .int .i64 x3, .int .i64 x4, .int .i64 x5, .bool x6] 27)); clear t1 t2 t3 t4; obtain ⟨⟨t1, t2⟩, _⟩ := two_of_block HB3.out.p; obtain ⟨⟨t3, t4⟩, _⟩ := two_of_block HB3.out.q; clear hb)
      | ((with_reducible refine (HOg.out _ HB3.out.bel).mono ?_); rintro e w4 ⟨rfl, hb⟩; have HB4 := Lib.hid ((HB3.out.below hb).below (below1 w4 (.cells #[.int .i64 y0, .int .i64 y1, .int .i64 y2, .int .i64 y3, .int .i64 y4, .int .i64 y5, .bool y6] 27))); have P4 := Lib.hid (block_alloc (block_below P3.out hb) (.cells #[.int .i64 y0, .int .i64 y1, .int .i64 y2, .int .i64 y3, .int .i64 y4, .int .i64 y5, .bool y6] 27)); have Q4 := Lib.hid (heap_alloc_new w4 (.cells #[.int .i64 y0, .int .i64 y1, .int .i64 y2, .int .i64 y3, .int .i64 y4, .int .i64 y5, .bool y6] 27)); clear t1 t2 t3 t4 hb))
    | fail)
  obtain ⟨W4, hW4⟩ : ∃ W4, W4 = w4.alloc (.cells #[.int .i64 y0, .int .i64 y1, .int .i64 y2, .int .i64 y3, .int .i64 y4, .int .i64 y5, .bool y6] 27) := ⟨_, rfl⟩
  rw [← hW4] at HB4 P4 Q4 ⊢
  clear hW4
  obtain ⟨⟨a0, a1, a2, a3, a4, a5, a6⟩, _⟩ := seven_of_block P4.out
  obtain ⟨⟨b0, b1, b2, b3, b4, b5, b6⟩, _⟩ := seven_of_block Q4.out
  go_wp2
  go_ret
  exact ⟨rfl, HB4.out.bel⟩
set_option maxHeartbeats 6400000 in
set_option maxRecDepth 1000000 in
theorem sgcov_no (S T S' T' : List Int) {cS cT cS' cT' : Nat} {AS AT AS' AT' : Option Addr} (w : World) (hS : RdZ w w.heap.size AS cS S) (hT : RdZ w w.heap.size AT cT T) (hS' : RdZ w w.heap.size AS' cS' S') (hT' : RdZ w w.heap.size AT' cT' T') (hz : chk2 S T S' T' = 0) (hx : ¬ xN S T S' T' ≤ S.length) :
    Calls Try.prog 6 #[.agg #[.slice AS S.length cS, .slice AT T.length cT], .agg #[.slice AS' S'.length cS', .slice AT' T'.length cT']] w fun e w' => e = .returned (.bool true) ∧ Below w.heap.size w w' := by
  have HB0 := Lib.hid (B2.start w #[.slice AS S.length cS, .slice AT T.length cT] #[.slice AS' S'.length cS', .slice AT' T'.length cT'])
  have HSg : Hid (sgX S T = .agg #[.int .i64 (ixS S T), .int .i64 (gnS S T), .int .i64 (n2S S T), .int .i64 (n3S S T), .int .i64 (cuS S T), .int .i64 (irS S T), .bool (miS S T)]) := rfl
  have HSg' : Hid (sgX S' T' = .agg #[.int .i64 (ixS S' T'), .int .i64 (gnS S' T'), .int .i64 (n2S S' T'), .int .i64 (n3S S' T'), .int .i64 (cuS S' T'), .int .i64 (irS S' T'), .bool (miS S' T')]) := rfl
  have HWi := Lib.hid (fun W (hb : Below w.heap.size w W) => pwithin_any W ((hS.below hb).mono hb.size) ((hT.below hb).mono hb.size) ((hS'.below hb).mono hb.size) ((hT'.below hb).mono hb.size))
  have HOf := Lib.hid (fun W (hb : Below w.heap.size w W) => sof_any W (hS.below hb) (hT.below hb) hb.size)
  have HOg := Lib.hid (fun W (hb : Below w.heap.size w W) => sof_any W (hS'.below hb) (hT'.below hb) hb.size)
  rw [HSg.out] at HOf
  rw [HSg'.out] at HOg
  obtain ⟨ha, hb'⟩ := chk2_ok hz
  rw [hz, decide_eq_false (fun h => hx h.2)] at HWi
  rw [chkA_ok ha] at HOf
  rw [chkA_ok hb'] at HOg
  clear hz ha hb' hx
  clear HSg HSg' hS hT hS' hT'
  generalize ixS S T = x0 at *
  generalize gnS S T = x1 at *
  generalize n2S S T = x2 at *
  generalize n3S S T = x3 at *
  generalize cuS S T = x4 at *
  generalize irS S T = x5 at *
  generalize miS S T = x6 at *
  generalize ixS S' T' = y0 at *
  generalize gnS S' T' = y1 at *
  generalize n2S S' T' = y2 at *
  generalize n3S S' T' = y3 at *
  generalize cuS S' T' = y4 at *
  generalize irS S' T' = y5 at *
  generalize miS S' T' = y6 at *
  go_enter Try.func6, Try.ntmps6
  obtain ⟨W0, hW0⟩ : ∃ W0, W0 = (w.alloc (.cells #[.slice AS S.length cS, .slice AT T.length cT] 24)).alloc (.cells #[.slice AS' S'.length cS', .slice AT' T'.length cT'] 24) := ⟨_, rfl⟩
  go_upto_region 1 with fail
  rw [← hW0] at HB0 ⊢
  clear hW0
  go_upto_region 6 with (first
    | (go_at_call 10; ((with_reducible refine (awake_any _).mono ?_); rintro e w1 ⟨rfl, hb⟩; have HB1 := Lib.hid (HB0.out.below hb); obtain ⟨⟨t1, t2⟩, _⟩ := two_of_block HB1.out.p; obtain ⟨⟨t3, t4⟩, _⟩ := two_of_block HB1.out.q; clear hb))
    | (go_at_call 16; ((with_reducible refine (HWi.out _ HB1.out.bel).mono ?_); rintro e w2 ⟨rfl, hb⟩; have HB2 := Lib.hid (HB1.out.below hb); clear t1 t2 t3 t4; obtain ⟨⟨t1, t2⟩, _⟩ := two_of_block HB2.out.p; obtain ⟨⟨t3, t4⟩, _⟩ := two_of_block HB2.out.q; clear hb))
    | (go_at_call 11; first
      | ((with_reducible refine (HOf.out _ HB2.out.bel).mono ?_); rintro e w3 ⟨rfl, hb⟩; have HB3 := Lib.hid ((HB2.out.below hb).below (below1 w3 (.cells #[.int .i64 x0, .int .i64 x1, .int .i64 x2, .int .i64 x3, .int .i64 x4, .int .i64 x5, .bool x6] 27))); have P3 := Lib.hid (heap_alloc_new w3 (.cells #[.int .i64 x0, .int .i64 x1, .int .i64 x2, .int .i64 x3, .int .i64 x4, .int .i64 x5, .bool x6] 27)); clear t1 t2 t3 t4; obtain ⟨⟨t1, t2⟩, _⟩ := two_of_block HB3.out.p; obtain ⟨⟨t3, t4⟩, _⟩ := two_of_block HB3.out.q; clear hb)
      | ((with_reducible refine (HOg.out _ HB3.out.bel).mono ?_); rintro e w4 ⟨rfl, hb⟩; have HB4 := Lib.hid ((HB3.out.below hb).below (below1 w4 (.cells #[.int .i64 y0, .int .i64 y1, .int .i64 y2, .int .i64 y3, .int .i64 y4, .int .i64 y5, .bool y6] 27))); have P4 := Lib.hid (block_alloc (block_below P3.out hb) (.cells #[.int .i64 y0, .int .i64 y1, .int .i64 y2, .int .i64 y3, .int .i64 y4, .int .i64 y5, .bool y6] 27)); have Q4 := Lib.hid (heap_alloc_new w4 (.cells #[.int .i64 y0, .int .i64 y1, .int .i64 y2, .int .i64 y3, .int .i64 y4, .int .i64 y5, .bool y6] 27)); clear t1 t2 t3 t4 hb))
    | fail)
  obtain ⟨W4, hW4⟩ : ∃ W4, W4 = w4.alloc (.cells #[.int .i64 y0, .int .i64 y1, .int .i64 y2, .int .i64 y3, .int .i64 y4, .int .i64 y5, .bool y6] 27) := ⟨_, rfl⟩
  rw [← hW4] at HB4 P4 Q4 ⊢
  clear hW4
  obtain ⟨⟨a0, a1, a2, a3, a4, a5, a6⟩, _⟩ := seven_of_block P4.out
  obtain ⟨⟨b0, b1, b2, b3, b4, b5, b6⟩, _⟩ := seven_of_block Q4.out
  go_wp2
  go_ret
  exact ⟨rfl, HB4.out.bel⟩
set_option maxHeartbeats 6400000 in
set_option maxRecDepth 1000000 in
theorem sgcov_yes (S T S' T' : List Int) {cS cT cS' cT' : Nat} {AS AT AS' AT' : Option Addr} (w : World) (hS : RdZ w w.heap.size AS cS S) (hT : RdZ w w.heap.size AT cT T) (hS' : RdZ w w.heap.size AS' cS' S') (hT' : RdZ w w.heap.size AT' cT' T') (hz : chk2 S T S' T' = 0) (hx : xN S T S' T' ≤ S.length) :
    Calls Try.prog 6 #[.agg #[.slice AS S.length cS, .slice AT T.length cT], .agg #[.slice AS' S'.length cS', .slice AT' T'.length cT']] w fun e w' => e = .returned (.bool true) ∧ Below w.heap.size w w' := by
  have HB0 := Lib.hid (B2.start w #[.slice AS S.length cS, .slice AT T.length cT] #[.slice AS' S'.length cS', .slice AT' T'.length cT'])
  have HSg : Hid (sgX S T = .agg #[.int .i64 (ixS S T), .int .i64 (gnS S T), .int .i64 (n2S S T), .int .i64 (n3S S T), .int .i64 (cuS S T), .int .i64 (irS S T), .bool (miS S T)]) := rfl
  have HSg' : Hid (sgX S' T' = .agg #[.int .i64 (ixS S' T'), .int .i64 (gnS S' T'), .int .i64 (n2S S' T'), .int .i64 (n3S S' T'), .int .i64 (cuS S' T'), .int .i64 (irS S' T'), .bool (miS S' T')]) := rfl
  have HWi := Lib.hid (fun W (hb : Below w.heap.size w W) => pwithin_any W ((hS.below hb).mono hb.size) ((hT.below hb).mono hb.size) ((hS'.below hb).mono hb.size) ((hT'.below hb).mono hb.size))
  have HOf := Lib.hid (fun W (hb : Below w.heap.size w W) => sof_any W (hS.below hb) (hT.below hb) hb.size)
  have HOg := Lib.hid (fun W (hb : Below w.heap.size w W) => sof_any W (hS'.below hb) (hT'.below hb) hb.size)
  rw [HSg.out] at HOf
  rw [HSg'.out] at HOg
  obtain ⟨ha, hb'⟩ := chk2_ok hz
  rw [hz, decide_eq_true ⟨rfl, hx⟩] at HWi
  rw [chkA_ok ha] at HOf
  rw [chkA_ok hb'] at HOg
  obtain ⟨f1, f2, f3, f4, f5⟩ := sgCv_of ha hb' hx
  obtain ⟨_, _, _, f6, f7, _⟩ := sgF_of ha
  obtain ⟨_, _, _, f8, f9, _⟩ := sgF_of hb'
  have HF5 := Lib.hid f5
  clear f5
  clear hz ha hb' hx
  clear HSg HSg' hS hT hS' hT'
  generalize ixS S T = x0 at *
  generalize gnS S T = x1 at *
  generalize n2S S T = x2 at *
  generalize n3S S T = x3 at *
  generalize cuS S T = x4 at *
  generalize irS S T = x5 at *
  generalize miS S T = x6 at *
  generalize ixS S' T' = y0 at *
  generalize gnS S' T' = y1 at *
  generalize n2S S' T' = y2 at *
  generalize n3S S' T' = y3 at *
  generalize cuS S' T' = y4 at *
  generalize irS S' T' = y5 at *
  generalize miS S' T' = y6 at *
  go_enter Try.func6, Try.ntmps6
  obtain ⟨W0, hW0⟩ : ∃ W0, W0 = (w.alloc (.cells #[.slice AS S.length cS, .slice AT T.length cT] 24)).alloc (.cells #[.slice AS' S'.length cS', .slice AT' T'.length cT'] 24) := ⟨_, rfl⟩
  go_upto_region 1 with fail
  rw [← hW0] at HB0 ⊢
  clear hW0
  go_upto_region 6 with (first
    | (go_at_call 10; ((with_reducible refine (awake_any _).mono ?_); rintro e w1 ⟨rfl, hb⟩; have HB1 := Lib.hid (HB0.out.below hb); obtain ⟨⟨t1, t2⟩, _⟩ := two_of_block HB1.out.p; obtain ⟨⟨t3, t4⟩, _⟩ := two_of_block HB1.out.q; clear hb))
    | (go_at_call 16; ((with_reducible refine (HWi.out _ HB1.out.bel).mono ?_); rintro e w2 ⟨rfl, hb⟩; have HB2 := Lib.hid (HB1.out.below hb); clear t1 t2 t3 t4; obtain ⟨⟨t1, t2⟩, _⟩ := two_of_block HB2.out.p; obtain ⟨⟨t3, t4⟩, _⟩ := two_of_block HB2.out.q; clear hb))
    | (go_at_call 11; first
      | ((with_reducible refine (HOf.out _ HB2.out.bel).mono ?_); rintro e w3 ⟨rfl, hb⟩; have HB3 := Lib.hid ((HB2.out.below hb).below (below1 w3 (.cells #[.int .i64 x0, .int .i64 x1, .int .i64 x2, .int .i64 x3, .int .i64 x4, .int .i64 x5, .bool x6] 27))); have P3 := Lib.hid (heap_alloc_new w3 (.cells #[.int .i64 x0, .int .i64 x1, .int .i64 x2, .int .i64 x3, .int .i64 x4, .int .i64 x5, .bool x6] 27)); clear t1 t2 t3 t4; obtain ⟨⟨t1, t2⟩, _⟩ := two_of_block HB3.out.p; obtain ⟨⟨t3, t4⟩, _⟩ := two_of_block HB3.out.q; clear hb)
      | ((with_reducible refine (HOg.out _ HB3.out.bel).mono ?_); rintro e w4 ⟨rfl, hb⟩; have HB4 := Lib.hid ((HB3.out.below hb).below (below1 w4 (.cells #[.int .i64 y0, .int .i64 y1, .int .i64 y2, .int .i64 y3, .int .i64 y4, .int .i64 y5, .bool y6] 27))); have P4 := Lib.hid (block_alloc (block_below P3.out hb) (.cells #[.int .i64 y0, .int .i64 y1, .int .i64 y2, .int .i64 y3, .int .i64 y4, .int .i64 y5, .bool y6] 27)); have Q4 := Lib.hid (heap_alloc_new w4 (.cells #[.int .i64 y0, .int .i64 y1, .int .i64 y2, .int .i64 y3, .int .i64 y4, .int .i64 y5, .bool y6] 27)); clear t1 t2 t3 t4 hb))
    | fail)
  obtain ⟨W4, hW4⟩ : ∃ W4, W4 = w4.alloc (.cells #[.int .i64 y0, .int .i64 y1, .int .i64 y2, .int .i64 y3, .int .i64 y4, .int .i64 y5, .bool y6] 27) := ⟨_, rfl⟩
  rw [← hW4] at HB4 P4 Q4 ⊢
  clear hW4
  obtain ⟨⟨a0, a1, a2, a3, a4, a5, a6⟩, _⟩ := seven_of_block P4.out
  obtain ⟨⟨b0, b1, b2, b3, b4, b5, b6⟩, _⟩ := seven_of_block Q4.out
  have hy0 : (y0 == 0) = false := by rw [beq_eq_false_iff_ne]; omega
  cases x6 with
  | true =>
    have hx : y6 = true := HF5.out rfl
    subst hx
    go_wp2
    go_ret
    exact ⟨rfl, HB4.out.bel⟩
  | false =>
    go_wp2
    go_ret
    exact ⟨rfl, HB4.out.bel⟩
theorem sgcov_walk (S T S' T' : List Int) {cS cT cS' cT' : Nat} {AS AT AS' AT' : Option Addr} (w : World) (hS : RdZ w w.heap.size AS cS S) (hT : RdZ w w.heap.size AT cT T) (hS' : RdZ w w.heap.size AS' cS' S') (hT' : RdZ w w.heap.size AT' cT' T') :
    Calls Try.prog 6 #[.agg #[.slice AS S.length cS, .slice AT T.length cT], .agg #[.slice AS' S'.length cS', .slice AT' T'.length cT']] w fun e w' => e = .returned (.bool true) ∧ Below w.heap.size w w' := by
  by_cases hz : chk2 S T S' T' = 0
  · by_cases hx : xN S T S' T' ≤ S.length
    · exact sgcov_yes S T S' T' w hS hT hS' hT' hz hx
    · exact sgcov_no S T S' T' w hS hT hS' hT' hz hx
  · exact sgcov_bad S T S' T' w hS hT hS' hT' _ rfl hz
end Go.Proofs.Ytmikhkolbkdnpaa
