/- The contracts of Projective and Minus, of a coset action and of any other pair of lists. -/
import Derived.Test.YtmikhkolbkdnpaaRPr
import Derived.Test.YtmikhkolbkdnpaaClM
import Derived.Test.YtmikhkolbkdnpaaClsM
import Derived.Test.YtmikhkolbkdnpaaCopL
namespace Go.Proofs.Ytmikhkolbkdnpaa
open Go.RowKit
set_option linter.unusedVariables false
set_option linter.unusedSimpArgs false

theorem AI.mk' {w : World} {B cS cT : Nat} {AS AT : Option Addr} {S T : List Int} (ha : Act2 S T) (hS : RdZ w B AS cS S) (hT : RdZ w B AT cT T) (hB : B ≤ w.heap.size) : ∃ bS oS bT oT, AS = some ⟨bS, oS, none⟩ ∧ AT = some ⟨bT, oT, none⟩ ∧ AI w B bS oS bT oT S T cS cT := by
  have h0 := ha.pos
  obtain ⟨bS, oS, rfl, rS⟩ := hS.rdn ha.s (by omega)
  obtain ⟨bT, oT, rfl, rT⟩ := hT.rdn ha.t (by have := ha.len; omega)
  rw [ha.len] at rT
  exact ⟨bS, oS, bT, oT, rfl, rfl, ha, hS, hT, rS, rT, hB⟩
/-- The code's projective, in the reference's words. -/
theorem pproj_raw {g f : Nat → Nat} {n bS oS bT oT cS cT : Nat} (w : World) (hs : RdN w w.heap.size bS oS n g) (ht : RdN w w.heap.size bT oT n f) (hg : Prm g n) (hf : Prm f n) (hn : n ≤ 1152) :
    Calls Try.prog 35 #[.agg #[.slice (some ⟨bS, oS, none⟩) n cS, .slice (some ⟨bT, oT, none⟩) n cT]] w fun e w' => ∃ A c A' c', e = .returned (.agg #[.slice A (pS g n).length c, .slice A' (pT g f n).length c']) ∧
      RdZ w' w'.heap.size A c (iz (pS g n)) ∧ RdZ w' w'.heap.size A' c' (iz (pT g f n)) ∧ Below w.heap.size w w' := by
  refine (projective_any w hs ht hg hf hn).mono ?_
  rintro e w' ⟨A, c, A', c', rfl, h1, h2, hb⟩
  exact rp_fin (PS := pS g n) (PT := pT g f n) h1 h2 rfl rfl (by unfold pS; rw [List.length_map]) (by unfold pT; rw [List.length_map]) hb
set_option maxHeartbeats 3200000 in
set_option maxRecDepth 1000000 in
theorem pproj_ok {S T : List Int} {B bS oS bT oT cS cT : Nat} (w : World) (h : AI w B bS oS bT oT S T cS cT) :
    Calls Try.prog 26 #[.agg #[.slice (some ⟨bS, oS, none⟩) S.length cS, .slice (some ⟨bT, oT, none⟩) S.length cT]] w fun e w' => ∃ A c A' c', e = .returned (.tuple #[.agg #[.slice A (pS (fnz S) S.length).length c, .slice A' (pT (fnz S) (fnz T) S.length).length c'], .int .i64 0]) ∧
      RdZ w' w'.heap.size A c (iz (pS (fnz S) S.length)) ∧ RdZ w' w'.heap.size A' c' (iz (pT (fnz S) (fnz T) S.length)) ∧ Below w.heap.size w w' := by
  have HCk : Hid (∀ W, Below w.heap.size w W → Calls Try.prog 34 #[.agg #[.slice (some ⟨bS, oS, none⟩) S.length cS, .slice (some ⟨bT, oT, none⟩) S.length cT]] W fun e w' => e = .returned (.int .i64 0) ∧ Below W.heap.size W w') := fun W hb => by
    have := pcheck_any W (h.below hb).zs (h.below hb).zt (h.below hb).le
    rwa [chkA_ok h.act, h.act.len] at this
  have HPr := Lib.hid (fun W (hb : Below w.heap.size w W) => pproj_raw (cS := cS) (cT := cT) W ((h.below hb).s.mono (h.below hb).le) ((h.below hb).t.mono (h.below hb).le) h.act.ps h.act.pt h.act.le)
  clear h
  generalize pS (fnz S) S.length = PS at *
  generalize pT (fnz S) (fnz T) S.length = PT at *
  have T0 : Hid (((w.alloc (.cells #[.slice (some ⟨bS, oS, none⟩) S.length cS, .slice (some ⟨bT, oT, none⟩) S.length cT] 24)).alloc (.cells #[.slice none 0 0, .slice none 0 0] 24)).heap[w.heap.size]? = some (.cells #[.slice (some ⟨bS, oS, none⟩) S.length cS, .slice (some ⟨bT, oT, none⟩) S.length cT] 24 (0, 0))) := block_alloc (heap_alloc_new w _) _
  have hr0 := heap_alloc_new (w.alloc (.cells #[.slice (some ⟨bS, oS, none⟩) S.length cS, .slice (some ⟨bT, oT, none⟩) S.length cT] 24)) (.cells #[.slice none 0 0, .slice none 0 0] 24)
  rw [show (w.alloc (.cells #[.slice (some ⟨bS, oS, none⟩) S.length cS, .slice (some ⟨bT, oT, none⟩) S.length cT] 24)).heap.size = w.heap.size + 1 by simp] at hr0
  have R0 := Lib.hid hr0
  have HB0 : Hid (Below w.heap.size w ((w.alloc (.cells #[.slice (some ⟨bS, oS, none⟩) S.length cS, .slice (some ⟨bT, oT, none⟩) S.length cT] 24)).alloc (.cells #[.slice none 0 0, .slice none 0 0] 24))) := below2 w _ _
  clear hr0
  go_enter Try.func26, Try.ntmps26
  go_wp2_with (first
    | (go_at_call 34; ((with_reducible refine (HCk.out _ HB0.out).mono ?_); rintro e w1 ⟨rfl, hb⟩; have HB1 := Lib.hid (bel0 HB0.out hb); have T1 := Lib.hid (block_below T0.out hb); have R1 := Lib.hid (block_below R0.out hb); obtain ⟨⟨t1, t2⟩, _⟩ := two_of_block T1.out; clear hb))
    | (go_at_call 35; ((with_reducible refine (HPr.out _ HB1.out).mono ?_); rintro e w2 ⟨A1, c1, A2, c2, rfl, h1, h2, hb⟩; have HB2 := Lib.hid (bel0 HB1.out hb); have R2 := Lib.hid (block_below R1.out hb); have H1 := Lib.hid h1; have H2 := Lib.hid h2; obtain ⟨⟨r1, r2⟩, rf⟩ := two_of_block R2.out; have hz2 := lt_of_block R2.out; clear hb h1 h2 t1 t2))
    | fail)
  have hrl := two_set1 (two_set0 R2.out (.slice A1 PS.length c1)) (.slice A2 PT.length c2)
  obtain ⟨⟨s1, s2⟩, _⟩ := two_of_block hrl
  refine bodyPost_ret (v := .tuple #[.agg #[.slice A1 PS.length c1, .slice A2 PT.length c2], .int .i64 0]) ?_ rfl ⟨A1, c1, A2, c2, rfl, ?_, ?_, (HB2.out.setCell (by show _ ≤ w.heap.size + 1; omega) _).setCell (by show _ ≤ w.heap.size + 1; omega) _⟩
  · simp [results, Try.results26, go_sem, s1, s2]
  · have := rdz_setR H1.out R2.out (.slice A1 PS.length c1) (.slice A2 PT.length c2)
    simpa using this
  · have := rdz_setR H2.out R2.out (.slice A1 PS.length c1) (.slice A2 PT.length c2)
    simpa using this
set_option maxHeartbeats 3200000 in
set_option maxRecDepth 1000000 in
theorem pproj_bad {S T : List Int} {B cS cT : Nat} {AS AT : Option Addr} (w : World) (hS : RdZ w B AS cS S) (hT : RdZ w B AT cT T) (hB : B ≤ w.heap.size) (z : Int) (hz : chkA S T = z) (hz0 : z ≠ 0) :
    Calls Try.prog 26 #[.agg #[.slice AS S.length cS, .slice AT T.length cT]] w fun e w' => e = .returned (.tuple #[.agg #[.slice none 0 0, .slice none 0 0], .int .i64 z]) ∧ Below w.heap.size w w' := by
  have HCk : Hid (∀ W, Below w.heap.size w W → Calls Try.prog 34 #[.agg #[.slice AS S.length cS, .slice AT T.length cT]] W fun e w' => e = .returned (.int .i64 z) ∧ Below W.heap.size W w') := fun W hb => by
    have := pcheck_any W (hS.below (hb.mono hB)) (hT.below (hb.mono hB)) (Nat.le_trans hB hb.size)
    rwa [hz] at this
  clear hS hT hz
  have hr0 := heap_alloc_new (w.alloc (.cells #[.slice AS S.length cS, .slice AT T.length cT] 24)) (.cells #[.slice none 0 0, .slice none 0 0] 24)
  rw [show (w.alloc (.cells #[.slice AS S.length cS, .slice AT T.length cT] 24)).heap.size = w.heap.size + 1 by simp] at hr0
  have R0 := Lib.hid hr0
  have HB0 : Hid (Below w.heap.size w ((w.alloc (.cells #[.slice AS S.length cS, .slice AT T.length cT] 24)).alloc (.cells #[.slice none 0 0, .slice none 0 0] 24))) := below2 w _ _
  have hzb : (z == 0) = false := by simpa using hz0
  clear hr0
  go_enter Try.func26, Try.ntmps26
  go_wp2_with (first
    | (go_at_call 34; ((with_reducible refine (HCk.out _ HB0.out).mono ?_); rintro e w1 ⟨rfl, hb⟩; have HB1 := Lib.hid (bel0 HB0.out hb); have R1 := Lib.hid (block_below R0.out hb); obtain ⟨⟨r1, r2⟩, rf⟩ := two_of_block R1.out; have hz2 := lt_of_block R1.out; clear hb))
    | fail)
  have hrl := two_set1 (two_set0 R1.out (.slice none 0 0)) (.slice none 0 0)
  obtain ⟨⟨s1, s2⟩, _⟩ := two_of_block hrl
  refine bodyPost_ret (v := .tuple #[.agg #[.slice none 0 0, .slice none 0 0], .int .i64 z]) ?_ rfl ⟨rfl, (HB1.out.setCell (by show _ ≤ w.heap.size + 1; omega) _).setCell (by show _ ≤ w.heap.size + 1; omega) _⟩
  simp [results, Try.results26, go_sem, s1, s2]
set_option maxHeartbeats 3200000 in
set_option maxRecDepth 1000000 in
theorem pminus_bad {S T : List Int} {B cS cT : Nat} {AS AT : Option Addr} (w : World) (hS : RdZ w B AS cS S) (hT : RdZ w B AT cT T) (hB : B ≤ w.heap.size) (z : Int) (hz : chkA S T = z) (hz0 : z ≠ 0) :
    Calls Try.prog 27 #[.agg #[.slice AS S.length cS, .slice AT T.length cT]] w fun e w' => e = .returned (.tuple #[.bool false, .int .i64 z]) ∧ Below w.heap.size w w' := by
  have HCk : Hid (∀ W, Below w.heap.size w W → Calls Try.prog 34 #[.agg #[.slice AS S.length cS, .slice AT T.length cT]] W fun e w' => e = .returned (.int .i64 z) ∧ Below W.heap.size W w') := fun W hb => by
    have := pcheck_any W (hS.below (hb.mono hB)) (hT.below (hb.mono hB)) (Nat.le_trans hB hb.size)
    rwa [hz] at this
  clear hS hT hz
  have HB0 : Hid (Below w.heap.size w (w.alloc (.cells #[.slice AS S.length cS, .slice AT T.length cT] 24))) := below1 w _
  have hzb : (z == 0) = false := by simpa using hz0
  go_enter Try.func27, Try.ntmps27
  go_wp2_with (first
    | (go_at_call 34; ((with_reducible refine (HCk.out _ HB0.out).mono ?_); rintro e w1 ⟨rfl, hb⟩; have HB1 := Lib.hid (bel0 HB0.out hb); clear hb))
    | fail)
  go_ret2
  exact ⟨rfl, HB1.out⟩
/-- The reference's Projective on an action. -/
theorem rproj_ok {S T : List Int} {B bS oS bT oT cS cT : Nat} (w : World) (h : AI w B bS oS bT oT S T cS cT) :
    Calls Try.prog 30 #[.agg #[.slice (some ⟨bS, oS, none⟩) S.length cS, .slice (some ⟨bT, oT, none⟩) S.length cT]] w fun e w' => ∃ A c A' c', e = .returned (.agg #[.slice A (pS (fnz S) S.length).length c, .slice A' (pT (fnz S) (fnz T) S.length).length c']) ∧
      RdZ w' w'.heap.size A c (iz (pS (fnz S) S.length)) ∧ RdZ w' w'.heap.size A' c' (iz (pT (fnz S) (fnz T) S.length)) ∧ Below w.heap.size w w' := by
  have h0 := h.act.pos
  have hle := h.act.le
  have hz := rel_inv h.act.ps h.act.pt h.act.rel
  have hfix := fun p (hp : p < S.length) => all_fix (p := p) h.act.ps h.act.pt (by omega) hz h.act.full hp
  have s := h.s.mono h.le
  have t := h.t.mono h.le
  by_cases e : fnz S (fnz S 0) = 0
  · exact rprojective_yes w s t h.act.ps h.act.pt (by omega) hle fun i hi => (hfix i hi).2 e
  · exact rprojective_no w s t h.act.ps h.act.pt (by omega) hle (fun i hi h2 => e ((hfix i hi).1 h2)) fun i hi => (h.act.rel i hi).1
end Go.Proofs.Ytmikhkolbkdnpaa
