/- PermutationProjects answers true for all arguments. -/
import Derived.Test.YtpooncdaajcmkaaAwkL
import Derived.Test.YtpooncdaajcmkaaPPjL
import Derived.Test.YtpooncdaajcmkaaSm22L
import Derived.Deep.RegionHeld3
namespace Go.Proofs.Ytpooncdaajcmkaa
open Go.RowKit
set_option linter.unusedVariables false
set_option linter.unusedSimpArgs false

theorem same22n {P Q : List Nat} {A1 A2 A3 A4 : Option Addr} {c1 c2 c3 c4 : Nat} (w : World) (h1 : RdZ w w.heap.size A1 c1 (iz P)) (h2 : RdZ w w.heap.size A2 c2 (iz Q)) (h3 : RdZ w w.heap.size A3 c3 (iz P)) (h4 : RdZ w w.heap.size A4 c4 (iz Q)) :
    Calls Try.prog 23 #[.agg #[.slice A1 P.length c1, .slice A2 Q.length c2], .agg #[.slice A3 P.length c3, .slice A4 Q.length c4]] w fun e w' => e = .returned (.bool true) ∧ Below w.heap.size w w' := by
  have h := same22 w (Nat.le_refl _) h1 h2 h3 h4
  rwa [iz_len, iz_len] at h
theorem rdz_none (w : World) (B : Nat) : RdZ w B none 0 [] := ⟨by simp, by unfold maxLen; omega, fun h0 => by simp at h0, fun _ h0 => by cases h0⟩
theorem same22e (w : World) : Calls Try.prog 23 #[.agg #[.slice none 0 0, .slice none 0 0], .agg #[.slice none 0 0, .slice none 0 0]] w fun e w' => e = .returned (.bool true) ∧ Below w.heap.size w w' :=
  same22 (S := []) (T := []) w (Nat.le_refl _) (rdz_none w _) (rdz_none w _) (rdz_none w _) (rdz_none w _)
set_option maxHeartbeats 6400000 in
set_option maxRecDepth 1000000 in
theorem pprojects_bad (S T : List Int) {cS cT : Nat} {AS AT : Option Addr} (w : World) (hS : RdZ w w.heap.size AS cS S) (hT : RdZ w w.heap.size AT cT T) (z : Int) (hz : chkA S T = z) (hz0 : z ≠ 0) :
    Calls Try.prog 7 #[.agg #[.slice AS S.length cS, .slice AT T.length cT]] w fun e w' => e = .returned (.bool true) ∧ Below w.heap.size w w' := by
  have T0 : Hid ((w.alloc (.cells #[.slice AS S.length cS, .slice AT T.length cT] 24)).heap[w.heap.size]? = some (.cells #[.slice AS S.length cS, .slice AT T.length cT] 24 (0, 0))) := heap_alloc_new w _
  have HB0 : Hid (Below w.heap.size w (w.alloc (.cells #[.slice AS S.length cS, .slice AT T.length cT] 24))) := below1 w _
  have HMi := Lib.hid (fun W (hb : Below w.heap.size w W) => pminus_bad W (hS.below hb) (hT.below hb) hb.size z hz hz0)
  have HPj := Lib.hid (fun W (hb : Below w.heap.size w W) => pproj_bad W (hS.below hb) (hT.below hb) hb.size z hz hz0)
  have HR : Hid (∀ (W : World), Below w.heap.size w W → Calls Try.prog 15 #[.agg #[.slice AS S.length cS, .slice AT T.length cT]] W fun e w' => e = .returned (.int .i64 z) ∧ Below W.heap.size W w') := fun W hb => by
    have := rcheckA_any W (hS.below hb) (hT.below hb) hb.size
    rwa [hz] at this
  have hzb : (z == 0) = false := by simpa using hz0
  clear hS hT hz
  go_enter Try.func7, Try.ntmps7
  go_wp2_with (first
    | (go_at_call 12; ((with_reducible refine (awake_any _).mono ?_); rintro e w1 ⟨rfl, hb⟩; have HB1 := Lib.hid (bel0 HB0.out hb); have T1 := Lib.hid (block_below T0.out hb); obtain ⟨⟨t1, t2⟩, _⟩ := two_of_block T1.out; clear hb))
    | (go_at_call 21; ((with_reducible refine (HMi.out _ HB1.out).mono ?_); rintro e w2 ⟨rfl, hb⟩; have HB2 := Lib.hid (bel0 HB1.out hb); have T2 := Lib.hid (block_below T1.out hb); clear t1 t2; obtain ⟨⟨t1, t2⟩, _⟩ := two_of_block T2.out; clear hb))
    | (go_at_call 22; ((with_reducible refine (HPj.out _ HB2.out).mono ?_); rintro e w3 ⟨rfl, hb⟩; have HB3 := Lib.hid (bel0 HB2.out hb); have T3 := Lib.hid (block_alloc (block_below T2.out hb) (.cells #[.slice none 0 0, .slice none 0 0] 24)); clear t1 t2; obtain ⟨⟨t1, t2⟩, _⟩ := two_of_block T3.out; have P3 : Hid ((w3.alloc (.cells #[.slice none 0 0, .slice none 0 0] 24)).heap[w3.heap.size]? = some (.cells #[.slice none 0 0, .slice none 0 0] 24 (0, 0))) := heap_alloc_new w3 _; have HB3' : Hid (Below w.heap.size w (w3.alloc (.cells #[.slice none 0 0, .slice none 0 0] 24))) := HB3.out.alloc HB3.out.size _; clear hb))
    | (go_at_call 15; ((with_reducible refine (HR.out _ HB3'.out).mono ?_); rintro e w4 ⟨rfl, hb⟩; have HB4 := Lib.hid (bel0 HB3'.out hb); have P4 := Lib.hid (block_below P3.out hb); obtain ⟨⟨s1, s2⟩, _⟩ := two_of_block P4.out; clear t1 t2 hb))
    | (go_at_call 23; ((with_reducible refine (same22e _).mono ?_); rintro e w5 ⟨rfl, hb⟩; have HB5 := Lib.hid (bel0 HB4.out hb); clear hb))
    | fail)
  go_ret
  exact ⟨rfl, HB5.out⟩
set_option maxHeartbeats 6400000 in
set_option maxRecDepth 1000000 in
theorem pprojects_ok (S T : List Int) {bS oS bT oT cS cT : Nat} (w : World) (h : AI w w.heap.size bS oS bT oT S T cS cT) :
    Calls Try.prog 7 #[.agg #[.slice (some ⟨bS, oS, none⟩) S.length cS, .slice (some ⟨bT, oT, none⟩) S.length cT]] w fun e w' => e = .returned (.bool true) ∧ Below w.heap.size w w' := by
  have T0 : Hid ((w.alloc (.cells #[.slice (some ⟨bS, oS, none⟩) S.length cS, .slice (some ⟨bT, oT, none⟩) S.length cT] 24)).heap[w.heap.size]? = some (.cells #[.slice (some ⟨bS, oS, none⟩) S.length cS, .slice (some ⟨bT, oT, none⟩) S.length cT] 24 (0, 0))) := heap_alloc_new w _
  have HB0 : Hid (Below w.heap.size w (w.alloc (.cells #[.slice (some ⟨bS, oS, none⟩) S.length cS, .slice (some ⟨bT, oT, none⟩) S.length cT] 24))) := below1 w _
  have HMi := Lib.hid (fun W (hb : Below w.heap.size w W) => pminus_any W (h.below hb))
  have HPj := Lib.hid (fun W (hb : Below w.heap.size w W) => pproj_ok W (h.below hb))
  have HRp := Lib.hid (fun W (hb : Below w.heap.size w W) => rproj_ok W (h.below hb))
  have HRm := Lib.hid (fun W (hb : Below w.heap.size w W) (vT : Value) => rminusB_any (cS := cS) (vT := vT) W ((h.below hb).s.mono (h.below hb).le) h.act.ps (by have := h.act.pos; omega) _ rfl)
  have HR : Hid (∀ (W : World), Below w.heap.size w W → Calls Try.prog 15 #[.agg #[.slice (some ⟨bS, oS, none⟩) S.length cS, .slice (some ⟨bT, oT, none⟩) S.length cT]] W fun e w' => e = .returned (.int .i64 0) ∧ Below W.heap.size W w') := fun W hb => by
    have := rcheckA_any W (h.below hb).zs (h.below hb).zt (h.below hb).le
    rwa [chkA_ok h.act, h.act.len] at this
  clear h
  generalize decide (fnz S (fnz S 0) = 0) = b at *
  generalize pS (fnz S) S.length = PS at *
  generalize pT (fnz S) (fnz T) S.length = PT at *
  go_enter Try.func7, Try.ntmps7
  go_wp2_with (first
    | (go_at_call 12; ((with_reducible refine (awake_any _).mono ?_); rintro e w1 ⟨rfl, hb⟩; have HB1 := Lib.hid (bel0 HB0.out hb); have T1 := Lib.hid (block_below T0.out hb); obtain ⟨⟨t1, t2⟩, _⟩ := two_of_block T1.out; clear hb))
    | (go_at_call 21; ((with_reducible refine (HMi.out _ HB1.out).mono ?_); rintro e w2 ⟨rfl, hb⟩; have HB2 := Lib.hid (bel0 HB1.out hb); have T2 := Lib.hid (block_below T1.out hb); clear t1 t2; obtain ⟨⟨t1, t2⟩, _⟩ := two_of_block T2.out; clear hb))
    | (go_at_call 22; ((with_reducible refine (HPj.out _ HB2.out).mono ?_); rintro e w3 ⟨A1, c1, A2, c2, rfl, h1, h2, hb⟩; have HB3 := Lib.hid (bel0 HB2.out hb); have T3 := Lib.hid (block_alloc (block_below T2.out hb) (.cells #[.slice A1 PS.length c1, .slice A2 PT.length c2] 24)); clear t1 t2; obtain ⟨⟨t1, t2⟩, _⟩ := two_of_block T3.out; have P3 : Hid ((w3.alloc (.cells #[.slice A1 PS.length c1, .slice A2 PT.length c2] 24)).heap[w3.heap.size]? = some (.cells #[.slice A1 PS.length c1, .slice A2 PT.length c2] 24 (0, 0))) := heap_alloc_new w3 _; have HB3' : Hid (Below w.heap.size w (w3.alloc (.cells #[.slice A1 PS.length c1, .slice A2 PT.length c2] 24))) := HB3.out.alloc HB3.out.size _; have H1 := Lib.hid (h1.below (below1 w3 (.cells #[.slice A1 PS.length c1, .slice A2 PT.length c2] 24))); have H2 := Lib.hid (h2.below (below1 w3 (.cells #[.slice A1 PS.length c1, .slice A2 PT.length c2] 24))); have hz3 : w3.heap.size ≤ (w3.alloc (.cells #[.slice A1 PS.length c1, .slice A2 PT.length c2] 24)).heap.size := (by simp); have HZ3 := Lib.hid hz3; clear hb h1 h2 hz3))
    | (go_at_call 15; ((with_reducible refine (HR.out _ HB3'.out).mono ?_); rintro e w4 ⟨rfl, hb⟩; have HB4 := Lib.hid (bel0 HB3'.out hb); have P4 := Lib.hid (block_below P3.out hb); have T4 := Lib.hid (block_below T3.out hb); have H14 := Lib.hid ((H1.out.below (hb.mono HZ3.out)).mono (Nat.le_trans HZ3.out hb.size)); have H24 := Lib.hid ((H2.out.below (hb.mono HZ3.out)).mono (Nat.le_trans HZ3.out hb.size)); clear t1 t2 hb))
    | fail)
  have D4 : Hid (Below w.heap.size w w4.drew) := HB4.out.drew
  have X4 : Hid (w4.drew.heap[w.heap.size]? = some (.cells #[.slice (some ⟨bS, oS, none⟩) S.length cS, .slice (some ⟨bT, oT, none⟩) S.length cT] 24 (0, 0))) := T4.out
  have Y4 : Hid (w4.drew.heap[w3.heap.size]? = some (.cells #[.slice A1 PS.length c1, .slice A2 PT.length c2] 24 (0, 0))) := P4.out
  have K1 : Hid (RdZ w4.drew w4.drew.heap.size A1 c1 (iz PS)) := H14.out.below ((Below.refl _ w4).drew)
  have K2 : Hid (RdZ w4.drew w4.drew.heap.size A2 c2 (iz PT)) := H24.out.below ((Below.refl _ w4).drew)
  have HK : Hid (∀ {W : World}, W.heap[w.heap.size]? = some (.cells #[.slice (some ⟨bS, oS, none⟩) S.length cS, .slice (some ⟨bT, oT, none⟩) S.length cT] 24 (0, 0)) → W.heap[w3.heap.size]? = some (.cells #[.slice A1 PS.length c1, .slice A2 PT.length c2] 24 (0, 0)) → (W.cell? ⟨w.heap.size, 0, none⟩ = some (.slice (some ⟨bS, oS, none⟩) S.length cS) ∧ W.cell? ⟨w.heap.size, 1, none⟩ = some (.slice (some ⟨bT, oT, none⟩) S.length cT)) ∧ W.cell? ⟨w3.heap.size, 0, none⟩ = some (.slice A1 PS.length c1) ∧ W.cell? ⟨w3.heap.size, 1, none⟩ = some (.slice A2 PT.length c2)) := fun h h' => ⟨(two_of_block h).1, (two_of_block h').1⟩
  go_region_held3 (fun w' => (w'.cell? ⟨w.heap.size, 0, none⟩ = some (.slice (some ⟨bS, oS, none⟩) S.length cS) ∧ w'.cell? ⟨w.heap.size, 1, none⟩ = some (.slice (some ⟨bT, oT, none⟩) S.length cT)) ∧ w'.cell? ⟨w3.heap.size, 0, none⟩ = some (.slice A1 PS.length c1) ∧ w'.cell? ⟨w3.heap.size, 1, none⟩ = some (.slice A2 PT.length c2))
    (with_reducible first | exact HK.out X7.out Y7.out | exact HK.out X6.out Y6.out | exact HK.out X5.out Y5.out | exact HK.out X4.out Y4.out | fail)
    (first
      | (go_at_call 24; ((with_reducible refine (HRm.out _ D4.out _).mono ?_); rintro e w5 ⟨rfl, hb⟩; have D5 := Lib.hid (bel0 D4.out hb); have X5 := Lib.hid (block_below X4.out hb); have Y5 := Lib.hid (block_below Y4.out hb); have K15 := Lib.hid ((K1.out.below hb).mono hb.size); have K25 := Lib.hid ((K2.out.below hb).mono hb.size); clear hb))
      | (go_at_call 25; ((with_reducible refine (HRp.out _ D5.out).mono ?_); rintro e w6 ⟨A3, c3, A4, c4, rfl, h3, h4, hb⟩; have D6 := Lib.hid (bel0 D5.out hb); have X6 := Lib.hid (block_below X5.out hb); have Y6 := Lib.hid (block_below Y5.out hb); have K16 := Lib.hid ((K15.out.below hb).mono hb.size); have K26 := Lib.hid ((K25.out.below hb).mono hb.size); have K36 := Lib.hid h3; have K46 := Lib.hid h4; clear hb h3 h4))
      | (go_at_call 23; ((with_reducible refine (same22n _ K16.out K26.out K36.out K46.out).mono ?_); rintro e w7 ⟨rfl, hb⟩; have D7 := Lib.hid (bel0 D6.out hb); have X7 := Lib.hid (block_below X6.out hb); have Y7 := Lib.hid (block_below Y6.out hb); clear hb))
      | fail)
  go_wp2
  go_ret
  exact ⟨rfl, D7.out⟩
theorem pprojects_walk (S T : List Int) {cS cT : Nat} {AS AT : Option Addr} (w : World) (hS : RdZ w w.heap.size AS cS S) (hT : RdZ w w.heap.size AT cT T) :
    Calls Try.prog 7 #[.agg #[.slice AS S.length cS, .slice AT T.length cT]] w fun e w' => e = .returned (.bool true) ∧ Below w.heap.size w w' := by
  by_cases h : chkA S T = 0
  · have ha := chkA_zero h
    obtain ⟨bS, oS, bT, oT, rfl, rfl, hai⟩ := AI.mk' ha hS hT (Nat.le_refl _)
    rw [ha.len]
    exact pprojects_ok S T w hai
  · exact pprojects_bad S T w hS hT _ rfl h
end Go.Proofs.Ytpooncdaajcmkaa
