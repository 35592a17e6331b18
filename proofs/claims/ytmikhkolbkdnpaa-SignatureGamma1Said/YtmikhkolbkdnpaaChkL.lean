/- The contracts of Check of permutation and of its reference. -/
import Derived.Test.YtmikhkolbkdnpaaAcM
namespace Go.Proofs.Ytmikhkolbkdnpaa
open Go.RowKit
set_option linter.unusedVariables false
set_option linter.unusedSimpArgs false

/-- The two lists are a coset action. -/
structure Act2 (S T : List Int) : Prop where
  pos : 1 ≤ S.length
  le : S.length ≤ 1152
  len : T.length = S.length
  s : okP S
  t : okP T
  rel : relA (fnz S) (fnz T) S.length
  full : (bst (fnz S) (fnz T) 0 S.length).length = S.length
theorem Act2.ps {S T : List Int} (h : Act2 S T) : Prm (fnz S) S.length := okP_prm h.s
theorem Act2.pt {S T : List Int} (h : Act2 S T) : Prm (fnz T) S.length := by have := okP_prm h.t; rwa [h.len] at this
open Classical in
noncomputable def chkA (S T : List Int) : Int := if S.length < 1 ∨ 1152 < S.length then 2 else if T.length ≠ S.length then 4 else if Act2 S T then 0 else 3
theorem chkA_range {S T : List Int} (h : S.length < 1 ∨ 1152 < S.length) : chkA S T = 2 := if_pos h
theorem chkA_shape {S T : List Int} (h : ¬ (S.length < 1 ∨ 1152 < S.length)) (h2 : T.length ≠ S.length) : chkA S T = 4 := by unfold chkA; rw [if_neg h, if_pos h2]
theorem chkA_form {S T : List Int} (h : ¬ (S.length < 1 ∨ 1152 < S.length)) (h2 : T.length = S.length) (h3 : ¬ Act2 S T) : chkA S T = 3 := by unfold chkA; rw [if_neg h, if_neg (by simpa using h2), if_neg h3]
theorem chkA_ok {S T : List Int} (h3 : Act2 S T) : chkA S T = 0 := by unfold chkA; rw [if_neg (by have := h3.pos; have := h3.le; omega), if_neg (by simpa using h3.len), if_pos h3]
theorem chkA_zero {S T : List Int} (h : chkA S T = 0) : Act2 S T := by
  unfold chkA at h
  split at h
  · cases h
  · split at h
    · cases h
    · split at h
      · assumption
      · cases h
set_option maxHeartbeats 3200000 in
set_option maxRecDepth 1000000 in
theorem pcheck_any {S T : List Int} {B cS cT : Nat} {AS AT : Option Addr} (w : World) (hS : RdZ w B AS cS S) (hT : RdZ w B AT cT T) (hB : B ≤ w.heap.size) :
    Calls Try.prog 34 #[.agg #[.slice AS S.length cS, .slice AT T.length cT]] w fun e w' => e = .returned (.int .i64 (chkA S T)) ∧ Below w.heap.size w w' := by
  have hlS := hS.len
  have hlT := hT.len
  have HS := Lib.hid hS
  have HT := Lib.hid hT
  have T0 : Hid ((w.alloc (.cells #[.slice AS S.length cS, .slice AT T.length cT] 24)).heap[w.heap.size]? = some (.cells #[.slice AS S.length cS, .slice AT T.length cT] 24 (0, 0))) := heap_alloc_new w _
  have HB0 : Hid (Below w.heap.size w (w.alloc (.cells #[.slice AS S.length cS, .slice AT T.length cT] 24))) := below1 w _
  clear hS hT
  by_cases hn : S.length < 1 ∨ 1152 < S.length
  · rw [chkA_range hn]
    rcases hn with hn | hn
    · have hn1 : (S.length : Int) < 1 := by omega
      go_enter Try.func34, Try.ntmps34
      go_wp2
      go_ret
      exact ⟨rfl, HB0.out⟩
    · have hn1 : ¬ (S.length : Int) < 1 := by omega
      have hn2 : (1152 : Int) < (S.length : Int) := by omega
      go_enter Try.func34, Try.ntmps34
      go_wp2
      go_ret
      exact ⟨rfl, HB0.out⟩
  have hn1 : ¬ (S.length : Int) < 1 := by omega
  have hn2 : ¬ (1152 : Int) < (S.length : Int) := by omega
  by_cases hl : T.length = S.length
  case neg =>
    rw [chkA_shape hn hl]
    have hl2 : ¬ (T.length : Int) = (S.length : Int) := by omega
    go_enter Try.func34, Try.ntmps34
    go_wp2
    go_ret
    exact ⟨rfl, HB0.out⟩
  have hpos : 0 < S.length := by omega
  have hle : S.length ≤ 1152 := by omega
  have HP1 : Hid (∀ W, Below w.heap.size w W → Calls Try.prog 60 #[.slice AS S.length cS] W fun e w' => e = .returned (.bool (decide (okP S))) ∧ Below W.heap.size W w') := fun W hb => isperm_any W (HS.out.below (hb.mono hB)) (Nat.le_trans hB hb.size) hle
  have HP2 : Hid (∀ W, Below w.heap.size w W → Calls Try.prog 60 #[.slice AT T.length cT] W fun e w' => e = .returned (.bool (decide (okP T))) ∧ Below W.heap.size W w') := fun W hb => isperm_any W (HT.out.below (hb.mono hB)) (Nat.le_trans hB hb.size) (by rw [hl]; exact hle)
  have HE : Hid (¬ Act2 S T → chkA S T = 3) := fun h => chkA_form hn hl h
  have HL := Lib.hid hl
  rw [hl] at T0 HB0 ⊢
  clear hn hl hlT
  have hmk : okP S → okP T → ∃ bS oS bT oT, AS = some ⟨bS, oS, none⟩ ∧ AT = some ⟨bT, oT, none⟩ ∧ RdN w B bS oS S.length (fnz S) ∧ RdN w B bT oT S.length (fnz T) := fun h1 h2 => by
    obtain ⟨bS, oS, e1, r1⟩ := HS.out.rdn h1 hpos
    obtain ⟨bT, oT, e2, r2⟩ := HT.out.rdn h2 (by rw [HL.out]; exact hpos)
    rw [HL.out] at r2
    exact ⟨bS, oS, bT, oT, e1, e2, r1, r2⟩
  rw [HL.out] at HP2
  by_cases h1 : okP S
  case neg =>
    rw [show decide (okP S) = false from decide_eq_false h1] at HP1
    rw [HE.out fun h => h1 h.s]
    clear h1 hmk HE
    go_enter Try.func34, Try.ntmps34
    go_wp2_with (first
      | (go_at_call 60; ((with_reducible refine (HP1.out _ HB0.out).mono ?_); rintro e w1 ⟨rfl, hb⟩; have HB1 := Lib.hid (bel0 HB0.out hb); have T1 := Lib.hid (block_below T0.out hb); obtain ⟨⟨t1, t2⟩, _⟩ := two_of_block T1.out; clear hb))
      | (go_at_call 60; ((with_reducible refine (HP2.out _ HB1.out).mono ?_); rintro e w2 ⟨rfl, hb⟩; have HB2 := Lib.hid (bel0 HB1.out hb); have T2 := Lib.hid (block_below T1.out hb); clear t1 t2; obtain ⟨⟨t1, t2⟩, _⟩ := two_of_block T2.out; clear hb))
      | (go_at_call 61; ((with_reducible refine (HA.out _ HB2.out).mono ?_); rintro e w3 ⟨rfl, hb⟩; have HB3 := Lib.hid (bel0 HB2.out hb); have T3 := Lib.hid (block_below T2.out hb); clear t1 t2; obtain ⟨⟨t1, t2⟩, _⟩ := two_of_block T3.out; clear hb))
      | (go_at_call 38; ((with_reducible refine (HSe.out _ HB3.out).mono ?_); rintro e w4 ⟨A9, c9, rfl, _, hb⟩; have HB4 := Lib.hid (bel0 HB3.out hb); clear hb))
      | fail)
    go_ret
    exact ⟨rfl, HB1.out⟩
  by_cases h2 : okP T
  case neg =>
    rw [show decide (okP S) = true from decide_eq_true h1] at HP1
    rw [show decide (okP T) = false from decide_eq_false h2] at HP2
    rw [HE.out fun h => h2 h.t]
    clear h1 h2 hmk HE
    go_enter Try.func34, Try.ntmps34
    go_wp2_with (first
      | (go_at_call 60; ((with_reducible refine (HP1.out _ HB0.out).mono ?_); rintro e w1 ⟨rfl, hb⟩; have HB1 := Lib.hid (bel0 HB0.out hb); have T1 := Lib.hid (block_below T0.out hb); obtain ⟨⟨t1, t2⟩, _⟩ := two_of_block T1.out; clear hb))
      | (go_at_call 60; ((with_reducible refine (HP2.out _ HB1.out).mono ?_); rintro e w2 ⟨rfl, hb⟩; have HB2 := Lib.hid (bel0 HB1.out hb); have T2 := Lib.hid (block_below T1.out hb); clear t1 t2; obtain ⟨⟨t1, t2⟩, _⟩ := two_of_block T2.out; clear hb))
      | (go_at_call 61; ((with_reducible refine (HA.out _ HB2.out).mono ?_); rintro e w3 ⟨rfl, hb⟩; have HB3 := Lib.hid (bel0 HB2.out hb); have T3 := Lib.hid (block_below T2.out hb); clear t1 t2; obtain ⟨⟨t1, t2⟩, _⟩ := two_of_block T3.out; clear hb))
      | (go_at_call 38; ((with_reducible refine (HSe.out _ HB3.out).mono ?_); rintro e w4 ⟨A9, c9, rfl, _, hb⟩; have HB4 := Lib.hid (bel0 HB3.out hb); clear hb))
      | fail)
    go_ret
    exact ⟨rfl, HB2.out⟩
  obtain ⟨bS, oS, bT, oT, rfl, rfl, rS, rT⟩ := hmk h1 h2
  have p1 := okP_prm h1
  have p2 : Prm (fnz T) S.length := by have := okP_prm h2; rwa [HL.out] at this
  have HA : Hid (∀ W, Below w.heap.size w W → Calls Try.prog 61 #[.agg #[.slice (some ⟨bS, oS, none⟩) S.length cS, .slice (some ⟨bT, oT, none⟩) S.length cT]] W fun e w' => e = .returned (.bool (decide (relA (fnz S) (fnz T) S.length))) ∧ Below W.heap.size W w') := fun W hb =>
    isact_any W ((rS.below (hb.mono hB)).mono (Nat.le_trans hB hb.size)) ((rT.below (hb.mono hB)).mono (Nat.le_trans hB hb.size)) p1 p2 hle
  have HSe : Hid (∀ W, Below w.heap.size w W → Calls Try.prog 38 #[.agg #[.slice (some ⟨bS, oS, none⟩) S.length cS, .slice (some ⟨bT, oT, none⟩) S.length cT], .int .i64 0] W fun e w' => ∃ A c, e = .returned (.slice A (bst (fnz S) (fnz T) 0 S.length).length c) ∧ W.heap.size = W.heap.size ∧ Below W.heap.size W w') := fun W hb =>
    (bsearch_any (i := 0) W ((rS.below (hb.mono hB)).mono (Nat.le_trans hB hb.size)) ((rT.below (hb.mono hB)).mono (Nat.le_trans hB hb.size)) p1 p2 hpos hle).mono fun e w' ⟨A, c, a, _, b⟩ => ⟨A, c, a, rfl, b⟩
  rw [show decide (okP S) = true from decide_eq_true h1] at HP1
  rw [show decide (okP T) = true from decide_eq_true h2] at HP2
  have HOk : Hid (relA (fnz S) (fnz T) S.length → (bst (fnz S) (fnz T) 0 S.length).length = S.length → chkA S T = 0) := fun a b => chkA_ok ⟨hpos, hle, HL.out, h1, h2, a, b⟩
  clear h1 h2 hmk
  clear p1 p2 rS rT
  by_cases h3 : relA (fnz S) (fnz T) S.length
  case neg =>
    rw [show decide (relA (fnz S) (fnz T) S.length) = false from decide_eq_false h3] at HA
    rw [HE.out fun h => h3 h.rel]
    clear h3 HE HOk
    go_enter Try.func34, Try.ntmps34
    go_wp2_with (first
      | (go_at_call 60; ((with_reducible refine (HP1.out _ HB0.out).mono ?_); rintro e w1 ⟨rfl, hb⟩; have HB1 := Lib.hid (bel0 HB0.out hb); have T1 := Lib.hid (block_below T0.out hb); obtain ⟨⟨t1, t2⟩, _⟩ := two_of_block T1.out; clear hb))
      | (go_at_call 60; ((with_reducible refine (HP2.out _ HB1.out).mono ?_); rintro e w2 ⟨rfl, hb⟩; have HB2 := Lib.hid (bel0 HB1.out hb); have T2 := Lib.hid (block_below T1.out hb); clear t1 t2; obtain ⟨⟨t1, t2⟩, _⟩ := two_of_block T2.out; clear hb))
      | (go_at_call 61; ((with_reducible refine (HA.out _ HB2.out).mono ?_); rintro e w3 ⟨rfl, hb⟩; have HB3 := Lib.hid (bel0 HB2.out hb); have T3 := Lib.hid (block_below T2.out hb); clear t1 t2; obtain ⟨⟨t1, t2⟩, _⟩ := two_of_block T3.out; clear hb))
      | (go_at_call 38; ((with_reducible refine (HSe.out _ HB3.out).mono ?_); rintro e w4 ⟨A9, c9, rfl, _, hb⟩; have HB4 := Lib.hid (bel0 HB3.out hb); clear hb))
      | fail)
    go_ret
    exact ⟨rfl, HB3.out⟩
  rw [show decide (relA (fnz S) (fnz T) S.length) = true from decide_eq_true h3] at HA
  by_cases h4 : (bst (fnz S) (fnz T) 0 S.length).length = S.length
  · rw [HOk.out h3 h4]
    rw [h4] at HSe
    clear h3 h4 HE HOk
    go_enter Try.func34, Try.ntmps34
    go_wp2_with (first
      | (go_at_call 60; ((with_reducible refine (HP1.out _ HB0.out).mono ?_); rintro e w1 ⟨rfl, hb⟩; have HB1 := Lib.hid (bel0 HB0.out hb); have T1 := Lib.hid (block_below T0.out hb); obtain ⟨⟨t1, t2⟩, _⟩ := two_of_block T1.out; clear hb))
      | (go_at_call 60; ((with_reducible refine (HP2.out _ HB1.out).mono ?_); rintro e w2 ⟨rfl, hb⟩; have HB2 := Lib.hid (bel0 HB1.out hb); have T2 := Lib.hid (block_below T1.out hb); clear t1 t2; obtain ⟨⟨t1, t2⟩, _⟩ := two_of_block T2.out; clear hb))
      | (go_at_call 61; ((with_reducible refine (HA.out _ HB2.out).mono ?_); rintro e w3 ⟨rfl, hb⟩; have HB3 := Lib.hid (bel0 HB2.out hb); have T3 := Lib.hid (block_below T2.out hb); clear t1 t2; obtain ⟨⟨t1, t2⟩, _⟩ := two_of_block T3.out; clear hb))
      | (go_at_call 38; ((with_reducible refine (HSe.out _ HB3.out).mono ?_); rintro e w4 ⟨A9, c9, rfl, _, hb⟩; have HB4 := Lib.hid (bel0 HB3.out hb); clear hb))
      | fail)
    go_ret
    exact ⟨rfl, HB4.out⟩
  · rw [HE.out fun h => h4 h.full]
    clear h3 HE HOk
    generalize (bst (fnz S) (fnz T) 0 S.length).length = m at *
    have h5 : ¬ (m : Int) = (S.length : Int) := by omega
    go_enter Try.func34, Try.ntmps34
    go_wp2_with (first
      | (go_at_call 60; ((with_reducible refine (HP1.out _ HB0.out).mono ?_); rintro e w1 ⟨rfl, hb⟩; have HB1 := Lib.hid (bel0 HB0.out hb); have T1 := Lib.hid (block_below T0.out hb); obtain ⟨⟨t1, t2⟩, _⟩ := two_of_block T1.out; clear hb))
      | (go_at_call 60; ((with_reducible refine (HP2.out _ HB1.out).mono ?_); rintro e w2 ⟨rfl, hb⟩; have HB2 := Lib.hid (bel0 HB1.out hb); have T2 := Lib.hid (block_below T1.out hb); clear t1 t2; obtain ⟨⟨t1, t2⟩, _⟩ := two_of_block T2.out; clear hb))
      | (go_at_call 61; ((with_reducible refine (HA.out _ HB2.out).mono ?_); rintro e w3 ⟨rfl, hb⟩; have HB3 := Lib.hid (bel0 HB2.out hb); have T3 := Lib.hid (block_below T2.out hb); clear t1 t2; obtain ⟨⟨t1, t2⟩, _⟩ := two_of_block T3.out; clear hb))
      | (go_at_call 38; ((with_reducible refine (HSe.out _ HB3.out).mono ?_); rintro e w4 ⟨A9, c9, rfl, _, hb⟩; have HB4 := Lib.hid (bel0 HB3.out hb); clear hb))
      | fail)
    go_ret
    exact ⟨rfl, HB4.out⟩
set_option maxHeartbeats 3200000 in
set_option maxRecDepth 1000000 in
theorem rcheckA_any {S T : List Int} {B cS cT : Nat} {AS AT : Option Addr} (w : World) (hS : RdZ w B AS cS S) (hT : RdZ w B AT cT T) (hB : B ≤ w.heap.size) :
    Calls Try.prog 55 #[.agg #[.slice AS S.length cS, .slice AT T.length cT]] w fun e w' => e = .returned (.int .i64 (chkA S T)) ∧ Below w.heap.size w w' := by
  have hlS := hS.len
  have hlT := hT.len
  have HS := Lib.hid hS
  have HT := Lib.hid hT
  have T0 : Hid ((w.alloc (.cells #[.slice AS S.length cS, .slice AT T.length cT] 24)).heap[w.heap.size]? = some (.cells #[.slice AS S.length cS, .slice AT T.length cT] 24 (0, 0))) := heap_alloc_new w _
  have HB0 : Hid (Below w.heap.size w (w.alloc (.cells #[.slice AS S.length cS, .slice AT T.length cT] 24))) := below1 w _
  clear hS hT
  by_cases hn : S.length < 1 ∨ 1152 < S.length
  · rw [chkA_range hn]
    rcases hn with hn | hn
    · have hn1 : (S.length : Int) < 1 := by omega
      go_enter Try.func55, Try.ntmps55
      go_wp2
      go_ret
      exact ⟨rfl, HB0.out⟩
    · have hn1 : ¬ (S.length : Int) < 1 := by omega
      have hn2 : (1152 : Int) < (S.length : Int) := by omega
      go_enter Try.func55, Try.ntmps55
      go_wp2
      go_ret
      exact ⟨rfl, HB0.out⟩
  have hn1 : ¬ (S.length : Int) < 1 := by omega
  have hn2 : ¬ (1152 : Int) < (S.length : Int) := by omega
  by_cases hl : T.length = S.length
  case neg =>
    rw [chkA_shape hn hl]
    have hl2 : ¬ (T.length : Int) = (S.length : Int) := by omega
    go_enter Try.func55, Try.ntmps55
    go_wp2
    go_ret
    exact ⟨rfl, HB0.out⟩
  have hpos : 0 < S.length := by omega
  have hle : S.length ≤ 1152 := by omega
  have HP1 : Hid (∀ W, Below w.heap.size w W → Calls Try.prog 75 #[.slice AS S.length cS] W fun e w' => e = .returned (.bool (decide (okP S))) ∧ Below W.heap.size W w') := fun W hb => rpermutes_any W (HS.out.below (hb.mono hB)) (Nat.le_trans hB hb.size) hle
  have HP2 : Hid (∀ W, Below w.heap.size w W → Calls Try.prog 75 #[.slice AT T.length cT] W fun e w' => e = .returned (.bool (decide (okP T))) ∧ Below W.heap.size W w') := fun W hb => rpermutes_any W (HT.out.below (hb.mono hB)) (Nat.le_trans hB hb.size) (by rw [hl]; exact hle)
  have HE : Hid (¬ Act2 S T → chkA S T = 3) := fun h => chkA_form hn hl h
  have HL := Lib.hid hl
  rw [hl] at T0 HB0 ⊢
  clear hn hl hlT
  have hmk : okP S → okP T → ∃ bS oS bT oT, AS = some ⟨bS, oS, none⟩ ∧ AT = some ⟨bT, oT, none⟩ ∧ RdN w B bS oS S.length (fnz S) ∧ RdN w B bT oT S.length (fnz T) := fun h1 h2 => by
    obtain ⟨bS, oS, e1, r1⟩ := HS.out.rdn h1 hpos
    obtain ⟨bT, oT, e2, r2⟩ := HT.out.rdn h2 (by rw [HL.out]; exact hpos)
    rw [HL.out] at r2
    exact ⟨bS, oS, bT, oT, e1, e2, r1, r2⟩
  rw [HL.out] at HP2
  by_cases h1 : okP S
  case neg =>
    rw [show decide (okP S) = false from decide_eq_false h1] at HP1
    rw [HE.out fun h => h1 h.s]
    clear h1 hmk HE
    go_enter Try.func55, Try.ntmps55
    go_wp2_with (first
      | (go_at_call 75; ((with_reducible refine (HP1.out _ HB0.out).mono ?_); rintro e w1 ⟨rfl, hb⟩; have HB1 := Lib.hid (bel0 HB0.out hb); have T1 := Lib.hid (block_below T0.out hb); obtain ⟨⟨t1, t2⟩, _⟩ := two_of_block T1.out; clear hb))
      | (go_at_call 75; ((with_reducible refine (HP2.out _ HB1.out).mono ?_); rintro e w2 ⟨rfl, hb⟩; have HB2 := Lib.hid (bel0 HB1.out hb); have T2 := Lib.hid (block_below T1.out hb); clear t1 t2; obtain ⟨⟨t1, t2⟩, _⟩ := two_of_block T2.out; clear hb))
      | fail)
    go_ret
    exact ⟨rfl, HB1.out⟩
  by_cases h2 : okP T
  case neg =>
    rw [show decide (okP S) = true from decide_eq_true h1] at HP1
    rw [show decide (okP T) = false from decide_eq_false h2] at HP2
    rw [HE.out fun h => h2 h.t]
    clear h1 h2 hmk HE
    go_enter Try.func55, Try.ntmps55
    go_wp2_with (first
      | (go_at_call 75; ((with_reducible refine (HP1.out _ HB0.out).mono ?_); rintro e w1 ⟨rfl, hb⟩; have HB1 := Lib.hid (bel0 HB0.out hb); have T1 := Lib.hid (block_below T0.out hb); obtain ⟨⟨t1, t2⟩, _⟩ := two_of_block T1.out; clear hb))
      | (go_at_call 75; ((with_reducible refine (HP2.out _ HB1.out).mono ?_); rintro e w2 ⟨rfl, hb⟩; have HB2 := Lib.hid (bel0 HB1.out hb); have T2 := Lib.hid (block_below T1.out hb); clear t1 t2; obtain ⟨⟨t1, t2⟩, _⟩ := two_of_block T2.out; clear hb))
      | fail)
    go_ret
    exact ⟨rfl, HB2.out⟩
  obtain ⟨bS, oS, bT, oT, rfl, rfl, rS, rT⟩ := hmk h1 h2
  have p1 := okP_prm h1
  have p2 : Prm (fnz T) S.length := by have := okP_prm h2; rwa [HL.out] at this
  
  have HSe : Hid (∀ W, Below w.heap.size w W → Calls Try.prog 76 #[.agg #[.slice (some ⟨bS, oS, none⟩) S.length cS, .slice (some ⟨bT, oT, none⟩) S.length cT], .int .i64 0] W fun e w' => ∃ A c, e = .returned (.slice A (bst (fnz S) (fnz T) 0 S.length).length c) ∧ W.heap.size = W.heap.size ∧ Below W.heap.size W w') := fun W hb =>
    (rsearch_any (i := 0) W ((rS.below (hb.mono hB)).mono (Nat.le_trans hB hb.size)) ((rT.below (hb.mono hB)).mono (Nat.le_trans hB hb.size)) p1 p2 hpos hle).mono fun e w' ⟨A, c, a, _, b⟩ => ⟨A, c, a, rfl, b⟩
  rw [show decide (okP S) = true from decide_eq_true h1] at HP1
  rw [show decide (okP T) = true from decide_eq_true h2] at HP2
  have HOk : Hid (relA (fnz S) (fnz T) S.length → (bst (fnz S) (fnz T) 0 S.length).length = S.length → chkA S T = 0) := fun a b => chkA_ok ⟨hpos, hle, HL.out, h1, h2, a, b⟩
  clear h1 h2 hmk
  obtain ⟨v, hv⟩ : ∃ v, v = chkA S T := ⟨_, rfl⟩
  rw [← hv]
  have HVV : Hid (v = chkA S T) := hv
  clear hv
  have HG := Lib.hid p1
  have HF := Lib.hid p2
  have HRS := Lib.hid rS
  have HRT := Lib.hid rT
  clear p1 p2 rS rT
  go_enter Try.func55, Try.ntmps55
  go_wp2_with (first
      | (go_at_call 75; ((with_reducible refine (HP1.out _ HB0.out).mono ?_); rintro e w1 ⟨rfl, hb⟩; have HB1 := Lib.hid (bel0 HB0.out hb); have T1 := Lib.hid (block_below T0.out hb); obtain ⟨⟨t1, t2⟩, _⟩ := two_of_block T1.out; clear hb))
      | (go_at_call 75; ((with_reducible refine (HP2.out _ HB1.out).mono ?_); rintro e w2 ⟨rfl, hb⟩; have HB2 := Lib.hid (bel0 HB1.out hb); have T2 := Lib.hid (block_below T1.out hb); clear t1 t2; obtain ⟨⟨t1, t2⟩, _⟩ := two_of_block T2.out; clear hb))
      | fail)
  have HX0 := Lib.hid T2.out
  have HB2' := Lib.hid HB2.out
  have hr2 : Hid (RdN w2 B bS oS S.length (fnz S)) := HRS.out.below (HB2.out.mono hB)
  have hr2' : Hid (RdN w2 B bT oT S.length (fnz T)) := HRT.out.below (HB2.out.mono hB)
  have HEr : Hid (¬ relA (fnz S) (fnz T) S.length → chkA S T = 3) := fun h => HE.out fun h' => h h'.rel
  have HEf : Hid (¬ (bst (fnz S) (fnz T) 0 S.length).length = S.length → chkA S T = 3) := fun h => HE.out fun h' => h h'.full
  generalize fnz S = g at *
  generalize fnz T = f at *
  generalize S.length = n at *
  go_loopw [4, 5, 6] (fun I _ _ wr => ∃ (k m : Nat), I = .int .i64 k ∧ k ≤ n ∧ wr = w2.drewN m ∧ Hid (∀ i, i < k → relI g f i)) (fun I _ _ _ => n - (intOf I).toNat)
  case atStart => exact ⟨0, 0, rfl, Nat.zero_le _, rfl, fun i h => by omega⟩
  case round =>
    obtain ⟨k, m, rfl, hk, rfl, HR⟩ := hrel
    by_cases hlt : k < n
    · have hlti : (k : Int) < (n : Int) := by omega
      have u1 := fun N => (show (w2.drewN N).cell? ⟨w.heap.size, 0, none⟩ = _ from t1)
      have u2 := fun N => (show (w2.drewN N).cell? ⟨w.heap.size, 1, none⟩ = _ from t2)
      clear t1 t2
      have h1 := HG.out.lt k hlt
      have h2 := HG.out.lt _ h1
      have h3 := HG.out.lt _ h2
      have h4 := HG.out.lt _ h3
      have d1 := HF.out.lt _ h1
      have d2 := HG.out.lt _ d1
      have d3 := HF.out.lt _ d2
      have d4 := HG.out.lt _ d3
      have d5 := HF.out.lt _ d4
      have c1 := fun N => (show (w2.drewN N).cell? ⟨bS, oS + k, none⟩ = _ from hr2.out.2 k hlt)
      have c2 := fun N => (show (w2.drewN N).cell? ⟨bS, oS + g k, none⟩ = _ from hr2.out.2 _ h1)
      have c3 := fun N => (show (w2.drewN N).cell? ⟨bS, oS + g (g k), none⟩ = _ from hr2.out.2 _ h2)
      have c4 := fun N => (show (w2.drewN N).cell? ⟨bS, oS + g (g (g k)), none⟩ = _ from hr2.out.2 _ h3)
      have e1 := fun N => (show (w2.drewN N).cell? ⟨bT, oT + g k, none⟩ = _ from hr2'.out.2 _ h1)
      have e2 := fun N => (show (w2.drewN N).cell? ⟨bS, oS + f (g k), none⟩ = _ from hr2.out.2 _ d1)
      have e3 := fun N => (show (w2.drewN N).cell? ⟨bT, oT + g (f (g k)), none⟩ = _ from hr2'.out.2 _ d2)
      have e4 := fun N => (show (w2.drewN N).cell? ⟨bS, oS + f (g (f (g k))), none⟩ = _ from hr2.out.2 _ d3)
      have e5 := fun N => (show (w2.drewN N).cell? ⟨bT, oT + g (f (g (f (g k)))), none⟩ = _ from hr2'.out.2 _ d4)
      have HNo : Hid (¬ (g (g (g (g k))) = k ∧ f (g (f (g (f (g k))))) = g (g k)) → ¬ relA g f n) := relA_no (g := g) (f := f) hlt
      have HYes : Hid (g (g (g (g k))) = k → f (g (f (g (f (g k))))) = g (g k) → ∀ i, i < k + 1 → relI g f i) := fun a b i hi => by
        rcases Nat.lt_or_ge i k with h | h
        · exact HR.out i h
        · obtain rfl : i = k := by omega
          exact ⟨a, b⟩
      generalize f (g (f (g (f (g k))))) = x at *
      generalize g (f (g (f (g k)))) = x4 at *
      generalize f (g (f (g k))) = x3 at *
      generalize g (f (g k)) = x2 at *
      generalize f (g k) = x1 at *
      generalize g (g (g (g k))) = y4 at *
      generalize g (g (g k)) = y3 at *
      generalize g (g k) = y2 at *
      generalize g k = y1 at *
      have i1 : (y1 : Int) < (n : Int) := by omega
      have i2 : (y2 : Int) < (n : Int) := by omega
      have i3 : (y3 : Int) < (n : Int) := by omega
      have j1 : (x1 : Int) < (n : Int) := by omega
      have j2 : (x2 : Int) < (n : Int) := by omega
      have j3 : (x3 : Int) < (n : Int) := by omega
      have j4 : (x4 : Int) < (n : Int) := by omega
      by_cases ha : y4 = k
      · by_cases hb : x = y2
        · have HN := Lib.hid (HYes.out ha hb)
          subst ha hb
          go_wp2
          go_quiet (fail)
          go_wp2
          go_quiet (fail)
          go_wp2
          go_quiet (fail)
          go_wp2
          go_roundw
          case rel => exact ⟨y4 + 1, _, by go_num, by omega, rfl, HN.out⟩
          case measure => simp [intOf]; omega
        · have HF1 : Hid (v = 3) := HVV.out.trans (HEr.out (HNo.out fun e => hb e.2))
          have hb' : ¬ (x : Int) = (y2 : Int) := by omega
          subst ha
          go_wp2
          go_quiet (fail)
          go_wp2
          go_quiet (fail)
          go_wp2
          go_quiet (fail)
          go_wp2
          go_ret
          exact ⟨by rw [HF1.out]; rfl, below_drewN (below_drewN (below_drewN (below_drewN HB2'.out _) _) _) _⟩
      · have HF1 : Hid (v = 3) := HVV.out.trans (HEr.out (HNo.out fun e => ha e.1))
        have ha' : ¬ (y4 : Int) = (k : Int) := by omega
        go_wp2
        go_quiet (fail)
        go_wp2
        go_quiet (fail)
        go_wp2
        go_quiet (fail)
        go_wp2
        go_ret
        exact ⟨by rw [HF1.out]; rfl, below_drewN (below_drewN (below_drewN (below_drewN HB2'.out _) _) _) _⟩
    · obtain rfl : k = n := by omega
      have hk2 : ¬ (k : Int) < (k : Int) := by omega
      have u1 := fun N => (show (w2.drewN N).cell? ⟨w.heap.size, 0, none⟩ = _ from t1)
      have u2 := fun N => (show (w2.drewN N).cell? ⟨w.heap.size, 1, none⟩ = _ from t2)
      clear t1 t2
      have HBd : Hid (Below w.heap.size w (w2.drewN m)) := below_drewN HB2'.out _
      by_cases h4 : (bst g f 0 k).length = k
      · have HF1 : Hid (v = 0) := HVV.out.trans (HOk.out HR.out h4)
        rw [h4] at HSe
        clear h4
        go_wp2_with (first
          | (go_at_call 76; ((with_reducible refine (HSe.out _ HBd.out).mono ?_); rintro e w4 ⟨A9, c9, rfl, _, hb⟩; have HB4 := Lib.hid (bel0 HBd.out hb); clear hb))
          | fail)
        go_ret
        exact ⟨by rw [HF1.out]; rfl, HB4.out⟩
      · have HF1 : Hid (v = 3) := HVV.out.trans (HEf.out h4)
        generalize (bst g f 0 k).length = z at *
        have h5 : ¬ (z : Int) = (k : Int) := by omega
        go_wp2_with (first
          | (go_at_call 76; ((with_reducible refine (HSe.out _ HBd.out).mono ?_); rintro e w4 ⟨A9, c9, rfl, _, hb⟩; have HB4 := Lib.hid (bel0 HBd.out hb); clear hb))
          | fail)
        go_ret
        exact ⟨by rw [HF1.out]; rfl, HB4.out⟩
end Go.Proofs.Ytmikhkolbkdnpaa
