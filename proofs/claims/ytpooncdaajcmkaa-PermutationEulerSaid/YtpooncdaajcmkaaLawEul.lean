/- PermutationEuler answers true for all arguments. -/
import Derived.Test.YtpooncdaajcmkaaAwkL
import Derived.Test.YtpooncdaajcmkaaEulL
import Derived.Test.YtpooncdaajcmkaaBasL
namespace Go.Proofs.Ytpooncdaajcmkaa
open Go.RowKit
set_option linter.unusedVariables false
set_option linter.unusedSimpArgs false

set_option maxHeartbeats 3200000 in
set_option maxRecDepth 1000000 in
theorem euler_bad {S T : List Int} {B cS cT : Nat} {AS AT : Option Addr} (w : World) (hS : RdZ w B AS cS S) (hT : RdZ w B AT cT T) (hB : B ≤ w.heap.size) (z : Int) (hz : chkA S T = z) (hz0 : z ≠ 0) :
    Calls Try.prog 35 #[.agg #[.slice AS S.length cS, .slice AT T.length cT]] w fun e w' => e = .returned (.tuple #[.int .i64 0, .int .i64 z]) ∧ Below w.heap.size w w' := by
  have HCk : Hid (∀ W, Below w.heap.size w W → Calls Try.prog 13 #[.agg #[.slice AS S.length cS, .slice AT T.length cT]] W fun e w' => e = .returned (.int .i64 z) ∧ Below W.heap.size W w') := fun W hb => by
    have := pcheck_any W (hS.below (hb.mono hB)) (hT.below (hb.mono hB)) (Nat.le_trans hB hb.size)
    rwa [hz] at this
  clear hS hT hz
  have HB0 : Hid (Below w.heap.size w (w.alloc (.cells #[.slice AS S.length cS, .slice AT T.length cT] 24))) := below1 w _
  have hzb : (z == 0) = false := by simpa using hz0
  go_enter Try.func35, Try.ntmps35
  go_wp2_with (first
    | (go_at_call 13; ((with_reducible refine (HCk.out _ HB0.out).mono ?_); rintro e w1 ⟨rfl, hb⟩; have HB1 := Lib.hid (bel0 HB0.out hb); clear hb))
    | fail)
  go_ret2
  exact ⟨rfl, HB1.out⟩
set_option maxHeartbeats 6400000 in
set_option maxRecDepth 1000000 in
theorem peuler_bad (S T : List Int) {cS cT : Nat} {AS AT : Option Addr} (i : Int) (w : World) (hS : RdZ w w.heap.size AS cS S) (hT : RdZ w w.heap.size AT cT T) (z : Int) (hz : chkA S T = z) (hz0 : z ≠ 0) :
    Calls Try.prog 11 #[.agg #[.slice AS S.length cS, .slice AT T.length cT], .int .i64 i] w fun e w' => e = .returned (.bool true) ∧ Below w.heap.size w w' := by
  have T0 : Hid ((w.alloc (.cells #[.slice AS S.length cS, .slice AT T.length cT] 24)).heap[w.heap.size]? = some (.cells #[.slice AS S.length cS, .slice AT T.length cT] 24 (0, 0))) := heap_alloc_new w _
  have HB0 : Hid (Below w.heap.size w (w.alloc (.cells #[.slice AS S.length cS, .slice AT T.length cT] 24))) := below1 w _
  have HEu := Lib.hid (fun W (hb : Below w.heap.size w W) => euler_bad W (hS.below hb) (hT.below hb) hb.size z hz hz0)
  have HR : Hid (∀ (W : World), Below w.heap.size w W → Calls Try.prog 15 #[.agg #[.slice AS S.length cS, .slice AT T.length cT]] W fun e w' => e = .returned (.int .i64 z) ∧ Below W.heap.size W w') := fun W hb => by
    have := rcheckA_any W (hS.below hb) (hT.below hb) hb.size
    rwa [hz] at this
  have hzb : (z == 0) = false := by simpa using hz0
  clear hS hT hz
  go_enter Try.func11, Try.ntmps11
  go_wp2_with (first
    | (go_at_call 12; ((with_reducible refine (awake_any _).mono ?_); rintro e w1 ⟨rfl, hb⟩; have HB1 := Lib.hid (bel0 HB0.out hb); have T1 := Lib.hid (block_below T0.out hb); obtain ⟨⟨t1, t2⟩, _⟩ := two_of_block T1.out; clear hb))
    | (go_at_call 35; ((with_reducible refine (HEu.out _ HB1.out).mono ?_); rintro e w2 ⟨rfl, hb⟩; have HB2 := Lib.hid (bel0 HB1.out hb); have T2 := Lib.hid (block_below T1.out hb); clear t1 t2; obtain ⟨⟨t1, t2⟩, _⟩ := two_of_block T2.out; clear hb))
    | (go_at_call 15; ((with_reducible refine (HR.out _ HB2.out).mono ?_); rintro e w3 ⟨rfl, hb⟩; have HB3 := Lib.hid (bel0 HB2.out hb); clear t1 t2 hb))
    | fail)
  go_ret
  exact ⟨rfl, HB3.out⟩
set_option maxHeartbeats 6400000 in
set_option maxRecDepth 1000000 in
theorem peuler_ok (S T : List Int) {bS oS bT oT cS cT : Nat} (i : Int) (w : World) (h : AI w w.heap.size bS oS bT oT S T cS cT) :
    Calls Try.prog 11 #[.agg #[.slice (some ⟨bS, oS, none⟩) S.length cS, .slice (some ⟨bT, oT, none⟩) S.length cT], .int .i64 i] w fun e w' => e = .returned (.bool true) ∧ Below w.heap.size w w' := by
  have T0 : Hid ((w.alloc (.cells #[.slice (some ⟨bS, oS, none⟩) S.length cS, .slice (some ⟨bT, oT, none⟩) S.length cT] 24)).heap[w.heap.size]? = some (.cells #[.slice (some ⟨bS, oS, none⟩) S.length cS, .slice (some ⟨bT, oT, none⟩) S.length cT] 24 (0, 0))) := heap_alloc_new w _
  have HB0 : Hid (Below w.heap.size w (w.alloc (.cells #[.slice (some ⟨bS, oS, none⟩) S.length cS, .slice (some ⟨bT, oT, none⟩) S.length cT] 24))) := below1 w _
  have HEu := Lib.hid (fun W (hb : Below w.heap.size w W) => euler_any W (h.below hb))
  have HRu := Lib.hid (fun W (hb : Below w.heap.size w W) => reuler_any W (h.below hb))
  have HR : Hid (∀ (W : World), Below w.heap.size w W → Calls Try.prog 15 #[.agg #[.slice (some ⟨bS, oS, none⟩) S.length cS, .slice (some ⟨bT, oT, none⟩) S.length cT]] W fun e w' => e = .returned (.int .i64 0) ∧ Below W.heap.size W w') := fun W hb => by
    have := rcheckA_any W (h.below hb).zs (h.below hb).zt (h.below hb).le
    rwa [chkA_ok h.act, h.act.len] at this
  obtain ⟨he1, he2⟩ := (pact_of h.act).eul
  have he3 : (eulZ (fnz S) (fnz T) S.length).tmod 2 = 0 := Int.tmod_eq_zero_of_dvd (Int.dvd_of_emod_eq_zero he2)
  have heb : -2000 ≤ eulZ (fnz S) (fnz T) S.length := by
    have h1 := (pact_of h.act).mle
    have h2 := h.act.le
    unfold eulZ
    omega
  by_cases hi : i < 0 ∨ (S.length : Int) ≤ i
  · have HBa := Lib.hid (fun W (hb : Below w.heap.size w W) => base_out W (h.below hb) i hi)
    clear h hi
    generalize eulZ (fnz S) (fnz T) S.length = E at *
    have he4 : ¬ 2 < E := by omega
    go_enter Try.func11, Try.ntmps11
    go_wp2_with (first
      | (go_at_call 12; ((with_reducible refine (awake_any _).mono ?_); rintro e w1 ⟨rfl, hb⟩; have HB1 := Lib.hid (bel0 HB0.out hb); have T1 := Lib.hid (block_below T0.out hb); obtain ⟨⟨t1, t2⟩, _⟩ := two_of_block T1.out; clear hb))
      | (go_at_call 35; ((with_reducible refine (HEu.out _ HB1.out).mono ?_); rintro e w2 ⟨rfl, hb⟩; have HB2 := Lib.hid (bel0 HB1.out hb); have T2 := Lib.hid (block_below T1.out hb); clear t1 t2; obtain ⟨⟨t1, t2⟩, _⟩ := two_of_block T2.out; clear hb))
      | (go_at_call 15; ((with_reducible refine (HR.out _ HB2.out).mono ?_); rintro e w3 ⟨rfl, hb⟩; have HB3 := Lib.hid (bel0 HB2.out hb); have T3 := Lib.hid (block_below T2.out hb); clear t1 t2; obtain ⟨⟨t1, t2⟩, _⟩ := two_of_block T3.out; clear hb))
      | (go_at_call 36; ((with_reducible refine (HRu.out _ HB3.out).mono ?_); rintro e w4 ⟨rfl, hb⟩; have HB4 := Lib.hid (bel0 HB3.out hb); have T4 := Lib.hid (block_below T3.out hb); clear t1 t2; obtain ⟨⟨t1, t2⟩, _⟩ := two_of_block T4.out; clear hb))
      | (go_at_call 26; ((with_reducible refine (HBa.out _ HB4.out).mono ?_); rintro e w5 ⟨rfl, hb⟩; have HB5 := Lib.hid (bel0 HB4.out hb); clear hb t1 t2))
      | fail)
    go_ret
    exact ⟨rfl, HB5.out.alloc HB5.out.size _⟩
  · obtain ⟨j, rfl⟩ : ∃ j : Nat, i = (j : Nat) := ⟨i.toNat, by omega⟩
    have hj : j < S.length := by omega
    have HBa := Lib.hid (fun W (hb : Below w.heap.size w W) => base_any W (h.below hb) j hj)
    have hba := base_act h.act hj
    have hbe := base_eul (pact_of h.act) hj
    have hl1 : (iz (Go.Proofs.Ytpooncdaajcmkaa.bS (fnz S) (fnz T) S.length j)).length = S.length := by rw [iz_len]; unfold Go.Proofs.Ytpooncdaajcmkaa.bS; simp
    have HE2 : Hid (∀ (W : World) A c A' c', RdZ W W.heap.size A c (iz (Go.Proofs.Ytpooncdaajcmkaa.bS (fnz S) (fnz T) S.length j)) → RdZ W W.heap.size A' c' (iz (Go.Proofs.Ytpooncdaajcmkaa.bT (fnz S) (fnz T) S.length j)) → Calls Try.prog 35 #[.agg #[.slice A S.length c, .slice A' S.length c']] W fun e w' => e = .returned (.tuple #[.int .i64 (eulZ (fnz S) (fnz T) S.length), .int .i64 0]) ∧ Below W.heap.size W w') := fun W A c A' c' h1 h2 => by
      obtain ⟨b1, o1, b2, o2, rfl, rfl, hai⟩ := AI.mk' hba h1 h2 (Nat.le_refl _)
      have := euler_any W hai
      rwa [hl1, hbe] at this
    clear h hi hba hbe hl1
    generalize eulZ (fnz S) (fnz T) S.length = E at *
    generalize Go.Proofs.Ytpooncdaajcmkaa.bS (fnz S) (fnz T) S.length j = QS at *
    generalize Go.Proofs.Ytpooncdaajcmkaa.bT (fnz S) (fnz T) S.length j = QT at *
    have he4 : ¬ 2 < E := by omega
    go_enter Try.func11, Try.ntmps11
    go_wp2_with (first
      | (go_at_call 12; ((with_reducible refine (awake_any _).mono ?_); rintro e w1 ⟨rfl, hb⟩; have HB1 := Lib.hid (bel0 HB0.out hb); have T1 := Lib.hid (block_below T0.out hb); obtain ⟨⟨t1, t2⟩, _⟩ := two_of_block T1.out; clear hb))
      | (go_at_call 35; ((with_reducible refine (HEu.out _ HB1.out).mono ?_); rintro e w2 ⟨rfl, hb⟩; have HB2 := Lib.hid (bel0 HB1.out hb); have T2 := Lib.hid (block_below T1.out hb); clear t1 t2; obtain ⟨⟨t1, t2⟩, _⟩ := two_of_block T2.out; clear hb))
      | (go_at_call 15; ((with_reducible refine (HR.out _ HB2.out).mono ?_); rintro e w3 ⟨rfl, hb⟩; have HB3 := Lib.hid (bel0 HB2.out hb); have T3 := Lib.hid (block_below T2.out hb); clear t1 t2; obtain ⟨⟨t1, t2⟩, _⟩ := two_of_block T3.out; clear hb))
      | (go_at_call 36; ((with_reducible refine (HRu.out _ HB3.out).mono ?_); rintro e w4 ⟨rfl, hb⟩; have HB4 := Lib.hid (bel0 HB3.out hb); have T4 := Lib.hid (block_below T3.out hb); clear t1 t2; obtain ⟨⟨t1, t2⟩, _⟩ := two_of_block T4.out; clear hb))
      | (go_at_call 26; ((with_reducible refine (HBa.out _ HB4.out).mono ?_); rintro e w5 ⟨A1, c1, A2, c2, rfl, h1, h2, hb⟩; have HB5 := Lib.hid (bel0 HB4.out hb); have HB5' : Hid (Below w.heap.size w (w5.alloc (.cells #[.slice A1 S.length c1, .slice A2 S.length c2] 24))) := HB5.out.alloc HB5.out.size _; have hb5 := below1 w5 (.cells #[.slice A1 S.length c1, .slice A2 S.length c2] 24); have K1 := Lib.hid ((h1.below hb5).mono hb5.size); have K2 := Lib.hid ((h2.below hb5).mono hb5.size); have P5 : Hid ((w5.alloc (.cells #[.slice A1 S.length c1, .slice A2 S.length c2] 24)).heap[w5.heap.size]? = some (.cells #[.slice A1 S.length c1, .slice A2 S.length c2] 24 (0, 0))) := heap_alloc_new w5 _; clear hb t1 t2 h1 h2 hb5))
      | (go_at_call 35; ((with_reducible refine (HE2.out _ _ _ _ _ K1.out K2.out).mono ?_); rintro e w6 ⟨rfl, hb⟩; have HB6 := Lib.hid (bel0 HB5'.out hb); clear hb))
      | fail)
    go_ret
    exact ⟨rfl, HB6.out⟩
theorem peuler_walk (S T : List Int) (i : Int) {cS cT : Nat} {AS AT : Option Addr} (w : World) (hS : RdZ w w.heap.size AS cS S) (hT : RdZ w w.heap.size AT cT T) :
    Calls Try.prog 11 #[.agg #[.slice AS S.length cS, .slice AT T.length cT], .int .i64 i] w fun e w' => e = .returned (.bool true) ∧ Below w.heap.size w w' := by
  by_cases h : chkA S T = 0
  · have ha := chkA_zero h
    obtain ⟨bS, oS, bT, oT, rfl, rfl, hai⟩ := AI.mk' ha hS hT (Nat.le_refl _)
    rw [ha.len]
    exact peuler_ok S T i w hai
  · exact peuler_bad S T i w hS hT _ rfl h
end Go.Proofs.Ytpooncdaajcmkaa
