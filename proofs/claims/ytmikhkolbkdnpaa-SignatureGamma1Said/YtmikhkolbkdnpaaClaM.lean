/- The contracts of Class, of the code and of the reference. The contracts of Classes, of the code and of the reference. The contract of the reference's Classes. -/
import Derived.Test.YtmikhkolbkdnpaaClM
namespace Go.Proofs.Ytmikhkolbkdnpaa
open Go.RowKit
set_option linter.unusedVariables false
set_option linter.unusedSimpArgs false

/-- The class of each point of an action. -/
def clsC (S T : List Int) : Nat → Int := (cst (uB (fnz T) (fun i => fnz S (fnz S i)) S.length) S.length).1
noncomputable def clsE (S T : List Int) (i : Int) : Int := if chkA S T = 0 then (if i < 0 ∨ (S.length : Int) ≤ i then 2 else 0) else chkA S T
noncomputable def clsV (S T : List Int) (i : Int) : Int := if clsE S T i = 0 then clsC S T i.toNat else 0
theorem cls_bad {S T : List Int} {i : Int} (h : chkA S T ≠ 0) : clsE S T i = chkA S T ∧ clsV S T i = 0 := by
  have e : clsE S T i = chkA S T := if_neg h
  exact ⟨e, by unfold clsV; rw [e, if_neg h]⟩
theorem cls_out {S T : List Int} {i : Int} (h : chkA S T = 0) (hi : i < 0 ∨ (S.length : Int) ≤ i) : clsE S T i = 2 ∧ clsV S T i = 0 := by
  have e : clsE S T i = 2 := by unfold clsE; rw [if_pos h, if_pos hi]
  exact ⟨e, by unfold clsV; rw [e]; rfl⟩
theorem cls_in {S T : List Int} {i : Nat} (h : chkA S T = 0) (hi : i < S.length) : clsE S T i = 0 ∧ clsV S T i = clsC S T i := by
  have e : clsE S T i = 0 := by unfold clsE; rw [if_pos h, if_neg (by omega)]
  exact ⟨e, by unfold clsV; rw [e, if_pos rfl]; rfl⟩
/-- What comes in reads as an action where the check says so. -/
theorem ai_of {w : World} {S T : List Int} {B cS cT : Nat} {AS AT : Option Addr} (hS : RdZ w B AS cS S) (hT : RdZ w B AT cT T) (hB : B ≤ w.heap.size) (ha : Act2 S T) : ∃ bS oS bT oT, AS = some ⟨bS, oS, none⟩ ∧ AT = some ⟨bT, oT, none⟩ ∧ AI w B bS oS bT oT S T cS cT := by
  have hpos := ha.pos
  obtain ⟨bS, oS, rfl, rS⟩ := hS.rdn ha.s hpos
  obtain ⟨bT, oT, rfl, rT⟩ := hT.rdn ha.t (by rw [ha.len]; exact hpos)
  rw [ha.len] at rT
  exact ⟨bS, oS, bT, oT, rfl, rfl, ha, hS, hT, rS, rT, hB⟩
end Go.Proofs.Ytmikhkolbkdnpaa
namespace Go.Proofs.Ytmikhkolbkdnpaa
open Go.RowKit
set_option linter.unusedVariables false
set_option linter.unusedSimpArgs false

def mnB (S : List Int) : Bool := decide (fnz S (fnz S 0) = 0)
def wdF (S T : List Int) : Nat → Nat := widM (mnB S) (fnz T) (fun i => fnz S (fnz S i)) S.length
def rgF (S T : List Int) : Nat → Bool := fun p => decide (perO (fnz T) S.length p = wdF S T p)
/-- The least points of the classes. -/
noncomputable def clP (S T : List Int) : List Nat := if chkA S T = 0 then (cst (uB (fnz T) (fun i => fnz S (fnz S i)) S.length) S.length).2 else []
theorem clP_ok {S T : List Int} (h : chkA S T = 0) : clP S T = (cst (uB (fnz T) (fun i => fnz S (fnz S i)) S.length) S.length).2 := if_pos h
theorem clP_bad {S T : List Int} (h : chkA S T ≠ 0) : clP S T = [] := if_neg h
set_option maxHeartbeats 3200000 in
set_option maxRecDepth 1000000 in
theorem cclasses_any {S T : List Int} {B cS cT : Nat} {AS AT : Option Addr} (w : World) (hS : RdZ w B AS cS S) (hT : RdZ w B AT cT T) (hB : B ≤ w.heap.size) :
    Calls Try.prog 25 #[.agg #[.slice AS S.length cS, .slice AT T.length cT]] w fun e w' => ∃ A c, e = .returned (.tuple #[.slice A (clP S T).length c, .int .i64 (chkA S T)]) ∧ w'.ownsRow w.heap.size 60 3 (.slice A (clP S T).length c) (clP S T).length (ccs (wdF S T) (rgF S T) (clP S T)) ∧ Below w.heap.size w w' := by
  have T0 : Hid ((w.alloc (.cells #[.slice AS S.length cS, .slice AT T.length cT] 24)).heap[w.heap.size]? = some (.cells #[.slice AS S.length cS, .slice AT T.length cT] 24 (0, 0))) := heap_alloc_new w _
  have HB0 : Hid (Below w.heap.size w (w.alloc (.cells #[.slice AS S.length cS, .slice AT T.length cT] 24))) := below1 w _
  have HCk : Hid (∀ W, Below w.heap.size w W → Calls Try.prog 34 #[.agg #[.slice AS S.length cS, .slice AT T.length cT]] W fun e w' => e = .returned (.int .i64 (chkA S T)) ∧ Below W.heap.size W w') := fun W hb => pcheck_any W (hS.below (hb.mono hB)) (hT.below (hb.mono hB)) (Nat.le_trans hB hb.size)
  by_cases hc : chkA S T = 0
  case neg =>
    rw [clP_bad hc]
    have hcb : (chkA S T == 0) = false := by simpa using hc
    clear hc hS hT
    generalize chkA S T = z at *
    go_enter Try.func25, Try.ntmps25
    go_wp2_with (first
      | (go_at_call 34; ((with_reducible refine (HCk.out _ HB0.out).mono ?_); rintro e w1 ⟨rfl, hb⟩; have HB1 := Lib.hid (bel0 HB0.out hb); clear hb))
      | fail)
    go_ret2
    exact ⟨none, 0, rfl, World.ownsRow_nil _ _ _ _, HB1.out⟩
  have ha := chkA_zero hc
  obtain ⟨bS, oS, bT, oT, rfl, rfl, hAI⟩ := ai_of hS hT hB ha
  rw [ha.len] at T0 HB0 HCk ⊢
  rw [clP_ok hc]
  rw [hc] at HCk ⊢
  have HCl := Lib.hid (fun W (hb : Below w.heap.size w W) => classes_any W (hAI.below hb) (mnB S) rfl (wdF S T) rfl (rgF S T) rfl)
  clear hS hT hc hAI ha
  generalize (cst (uB (fnz T) (fun i => fnz S (fnz S i)) S.length) S.length).2 = P at *
  go_enter Try.func25, Try.ntmps25
  go_wp2_with (first
    | (go_at_call 34; ((with_reducible refine (HCk.out _ HB0.out).mono ?_); rintro e w1 ⟨rfl, hb⟩; have HB1 := Lib.hid (bel0 HB0.out hb); have T1 := Lib.hid (block_below T0.out hb); obtain ⟨⟨t1, t2⟩, _⟩ := two_of_block T1.out; clear hb))
    | (go_at_call 54; ((with_reducible refine (HCl.out _ HB1.out).mono ?_); rintro e w2 ⟨A, c, bc, rfl, ho, _, hb⟩; have HB2 := Lib.hid (bel0 HB1.out hb); have HO := Lib.hid (own_base HB1.out.size ho); clear hb ho))
    | fail)
  go_ret2
  exact ⟨A, c, rfl, HO.out, HB2.out⟩
set_option maxHeartbeats 3200000 in
set_option maxRecDepth 1000000 in
theorem rminus_any {g : Nat → Nat} {n bS oS cS : Nat} {vT : Value} (w : World) (h : RdN w w.heap.size bS oS n g) (hg : Prm g n) (h0 : 0 < n) (b : Bool) (hb : b = decide (g (g 0) = 0)) :
    Calls Try.prog 31 #[.agg #[.slice (some ⟨bS, oS, none⟩) n cS, vT]] w fun e w' => e = .returned (.bool b) ∧ Below w.heap.size w w' := by
  have T0 : Hid ((w.alloc (.cells #[.slice (some ⟨bS, oS, none⟩) n cS, vT] 24)).heap[w.heap.size]? = some (.cells #[.slice (some ⟨bS, oS, none⟩) n cS, vT] 24 (0, 0))) := heap_alloc_new w _
  have HB0 : Hid (Below w.heap.size w (w.alloc (.cells #[.slice (some ⟨bS, oS, none⟩) n cS, vT] 24))) := below1 w _
  have h1 := hg.lt 0 h0
  have hr := h.below HB0.out
  obtain ⟨W1, hW1⟩ : ∃ W1, W1 = w.alloc (.cells #[.slice (some ⟨bS, oS, none⟩) n cS, vT] 24) := ⟨_, rfl⟩
  go_enter Try.func31, Try.ntmps31
  go_wp2
  rw [← hW1] at T0 HB0 hr ⊢
  clear hW1
  have c0 : ∀ N, (W1.drewN N).cell? ⟨bS, oS + 0, none⟩ = some (.int .i64 (g 0 : Nat)) := fun N => hr.2 0 h0
  have c1 : ∀ N, (W1.drewN N).cell? ⟨bS, oS + g 0, none⟩ = some (.int .i64 (g (g 0) : Nat)) := fun N => hr.2 _ h1
  have u1 := fun N => (show (W1.drewN N).cell? ⟨w.heap.size, 0, none⟩ = _ from (two_of_block T0.out).1.1)
  have HBb : Hid (b = decide (g (g 0) = 0)) := hb
  clear hb hr h hg
  generalize g (g 0) = y at *
  generalize g 0 = x at *
  have i0 : (0 : Int) < (n : Int) := by omega
  have i1 : (x : Int) < (n : Int) := by omega
  have c0' : ∀ N, (W1.drewN N).cell? ⟨bS, oS, none⟩ = some (.int .i64 (x : Nat)) := fun N => c0 N
  by_cases hy : y = 0
  · subst hy
    have hbt : b = true := HBb.out.trans (by simp)
    subst hbt
    go_quiet (fail)
    go_wp2
    go_ret
    exact ⟨rfl, below_drewN HB0.out _⟩
  · have hbf : b = false := HBb.out.trans (by simpa using hy)
    subst hbf
    have hyb : ((y : Int) == 0) = false := by simp; omega
    go_quiet (fail)
    go_wp2
    refine bodyPost_ret (v := .bool false) ?_ rfl ⟨rfl, below_drewN HB0.out _⟩
    simp [results, Try.results31, go_sem]
theorem threeC_of_block {w : World} {g : Nat} {a b c : Value} {t : TypeId} (h : w.heap[g]? = some (.cells #[a, b, c] t (0, 0))) :
    (w.cell? ⟨g, 0, none⟩ = some a ∧ w.cell? ⟨g, 1, none⟩ = some b ∧ w.cell? ⟨g, 2, none⟩ = some c) ∧ (∀ j, w.frozen? ⟨g, j, none⟩ = false) :=
  ⟨⟨by rw [cell_of_row w g 0 _ t _ h]; rfl, by rw [cell_of_row w g 1 _ t _ h]; rfl, by rw [cell_of_row w g 2 _ t _ h]; rfl⟩, fun j => frozen_of_row w g j _ t h⟩
theorem three_set1 {w : World} {g : Nat} {a b c : Value} {t : TypeId} (h : w.heap[g]? = some (.cells #[a, b, c] t (0, 0))) (b' : Value) :
    (w.setCell ⟨g, 1, none⟩ b').heap[g]? = some (.cells #[a, b', c] t (0, 0)) := heap_setCell_same _ g 1 #[a, b, c] t b' h
theorem three_set2 {w : World} {g : Nat} {a b c : Value} {t : TypeId} (h : w.heap[g]? = some (.cells #[a, b, c] t (0, 0))) (c' : Value) :
    (w.setCell ⟨g, 2, none⟩ c').heap[g]? = some (.cells #[a, b, c'] t (0, 0)) := heap_setCell_same _ g 2 #[a, b, c] t c' h
/-- What the reference's regularity says, in the code's words. -/
theorem rg_minus {S T : List Int} (ha : Act2 S T) {p : Nat} (hp : p < S.length) (hm : mnB S = true) : rgF S T p = true ∧ wdF S T p = wid0 (fnz T) (fun i => fnz S (fnz S i)) S.length p := by
  have h0 : fnz S (fnz S 0) = 0 := by simpa [mnB] using hm
  have hz := rel_inv ha.ps ha.pt ha.rel
  have hf := (all_fix ha.ps ha.pt (by have := ha.pos; omega) hz ha.full hp).2 h0
  have e : wdF S T p = wid0 (fnz T) (fun i => fnz S (fnz S i)) S.length p := by unfold wdF widM; rw [hm]; rfl
  refine ⟨?_, e⟩
  unfold rgF
  rw [e, wid0_fix ha.pt hp hf]
  simp
theorem rg_other {S T : List Int} (ha : Act2 S T) {p : Nat} (hp : p < S.length) (hm : mnB S = false) : rgF S T p = decide (wid0 (fnz T) (fun i => fnz S (fnz S i)) S.length p / 2 % perO (fnz T) S.length p = 0) ∧ wdF S T p = wid0 (fnz T) (fun i => fnz S (fnz S i)) S.length p / 2 := by
  have h0 : fnz S (fnz S 0) ≠ 0 := by simpa [mnB] using hm
  have hz := rel_inv ha.ps ha.pt ha.rel
  have hf : fnz S (fnz S p) ≠ p := fun e => h0 ((all_fix ha.ps ha.pt (by have := ha.pos; omega) hz ha.full hp).1 e)
  have e : wdF S T p = wid0 (fnz T) (fun i => fnz S (fnz S i)) S.length p / 2 := by unfold wdF widM; rw [hm]; rfl
  refine ⟨?_, e⟩
  unfold rgF
  rw [e, decide_eq_decide]
  exact regular_eq ha.pt hz hp hf
theorem rgt_iff (a b : Nat) : (((a : Int) == (b : Int)) : Bool) = decide (a = b) := by rw [Bool.eq_iff_iff]; simp; omega
end Go.Proofs.Ytmikhkolbkdnpaa
namespace Go.Proofs.Ytmikhkolbkdnpaa
open Go.RowKit
set_option linter.unusedVariables false
set_option linter.unusedSimpArgs false

theorem cnt_step (t : Nat → Bool) (i : Nat) : cntB t (i + 1) = cntB t i + (if t i = true then 1 else 0) := rfl
theorem cntB_le (t : Nat → Bool) : ∀ i, cntB t i ≤ i
  | 0 => Nat.le_refl _
  | i + 1 => by have := cntB_le t i; rw [cnt_step]; split <;> omega
set_option maxHeartbeats 6400000 in
set_option maxRecDepth 1000000 in
theorem rclasses2_any {S T : List Int} {B cS cT : Nat} {AS AT : Option Addr} (w : World) (hS : RdZ w B AS cS S) (hT : RdZ w B AT cT T) (hB : B ≤ w.heap.size) :
    Calls Try.prog 29 #[.agg #[.slice AS S.length cS, .slice AT T.length cT]] w fun e w' => ∃ A c, e = .returned (.tuple #[.slice A (clP S T).length c, .int .i64 (chkA S T)]) ∧ w'.ownsRow w.heap.size 60 3 (.slice A (clP S T).length c) (clP S T).length (ccs (wdF S T) (rgF S T) (clP S T)) ∧ Below w.heap.size w w' := by
  obtain ⟨i0, hi0, z0, z1, z2⟩ := info_parts Try.infoCls
  have T0 : Hid ((w.alloc (.cells #[.slice AS S.length cS, .slice AT T.length cT] 24)).heap[w.heap.size]? = some (.cells #[.slice AS S.length cS, .slice AT T.length cT] 24 (0, 0))) := heap_alloc_new w _
  have HB0 : Hid (Below w.heap.size w (w.alloc (.cells #[.slice AS S.length cS, .slice AT T.length cT] 24))) := below1 w _
  have HCk : Hid (∀ W, Below w.heap.size w W → Calls Try.prog 55 #[.agg #[.slice AS S.length cS, .slice AT T.length cT]] W fun e w' => e = .returned (.int .i64 (chkA S T)) ∧ Below W.heap.size W w') := fun W hb => rcheckA_any W (hS.below (hb.mono hB)) (hT.below (hb.mono hB)) (Nat.le_trans hB hb.size)
  by_cases hc : chkA S T = 0
  case neg =>
    rw [clP_bad hc]
    have hcb : (chkA S T == 0) = false := by simpa using hc
    clear hc hS hT
    generalize chkA S T = z at *
    go_enter Try.func29, Try.ntmps29
    go_wp2_with (first
      | (go_at_call 55; ((with_reducible refine (HCk.out _ HB0.out).mono ?_); rintro e w1 ⟨rfl, hb⟩; have HB1 := Lib.hid (bel0 HB0.out hb); clear hb))
      | fail)
    go_ret2
    exact ⟨none, 0, rfl, World.ownsRow_nil _ _ _ _, HB1.out⟩
  have ha := chkA_zero hc
  obtain ⟨bS, oS, bT, oT, rfl, rfl, hAI⟩ := ai_of hS hT hB ha
  rw [ha.len] at T0 HB0 HCk ⊢
  rw [clP_ok hc]
  rw [hc] at HCk ⊢
  have HCl := Lib.hid (fun W (hb : Below w.heap.size w W) => rclasses_any W (hAI.below hb))
  have HMi := Lib.hid (fun W (hb : Below w.heap.size w W) => rminus_any (cS := cS) (vT := .slice (some ⟨bT, oT, none⟩) S.length cT) W (((hAI.s.below (hb.mono hB))).mono (Nat.le_trans hB hb.size)) ha.ps ha.pos (mnB S) rfl)
  have HTr : Hid (RdN w w.heap.size bT oT S.length (fnz T)) := hAI.t.mono hB
  have hz := rel_inv ha.ps ha.pt ha.rel
  have HI := Lib.hid (cst_inv ha.pt hz S.length (Nat.le_refl _))
  have HPt := Lib.hid ha.pt
  have hle := ha.le
  have HRm : Hid (∀ p, p < S.length → mnB S = true → rgF S T p = true ∧ wdF S T p = wid0 (fnz T) (fun i => fnz S (fnz S i)) S.length p) := fun p hp => rg_minus ha hp
  have HRo : Hid (∀ p, p < S.length → mnB S = false → rgF S T p = decide (wid0 (fnz T) (fun i => fnz S (fnz S i)) S.length p / 2 % perO (fnz T) S.length p = 0) ∧ wdF S T p = wid0 (fnz T) (fun i => fnz S (fnz S i)) S.length p / 2) := fun p hp => rg_other ha hp
  have HCnt : Hid (∀ p, p < S.length → cntB (uB (fnz T) (fun i => fnz S (fnz S i)) S.length p) S.length = wid0 (fnz T) (fun i => fnz S (fnz S i)) S.length p) := fun p hp => cnt_u ha.pt hz hp
  clear hS hT hc hAI ha hz
  generalize wid0 (fnz T) (fun i => fnz S (fnz S i)) S.length = W0f at *
  generalize uB (fnz T) (fun i => fnz S (fnz S i)) S.length = u at *
  generalize fnz T = f at *
  generalize mnB S = mi at *
  generalize wdF S T = WD at *
  generalize rgF S T = RG at *
  generalize S.length = n at *
  have HCe : Hid (∀ p, p ∈ (cst u n).2 → p < n) := HI.out.bd
  have HCi := Lib.hid HI.out.iff
  have HCr := Lib.hid HI.out.rng
  have hml := HI.out.len
  clear HI
  generalize (cst u n).1 = C at *
  generalize (cst u n).2 = P at *
  go_enter Try.func29, Try.ntmps29
  go_wp2_with (first
    | (go_at_call 55; ((with_reducible refine (HCk.out _ HB0.out).mono ?_); rintro e w1 ⟨rfl, hb⟩; have HB1 := Lib.hid (bel0 HB0.out hb); have T1 := Lib.hid (block_below T0.out hb); obtain ⟨⟨t1, t2⟩, _⟩ := two_of_block T1.out; clear hb))
    | (go_at_call 56; ((with_reducible refine (HCl.out _ HB1.out).mono ?_); rintro e w2 ⟨A, c, bo, rfl, ho, hr, hb⟩; have HB2 := Lib.hid (bel0 HB1.out hb); have T2 := Lib.hid (block_below T1.out hb); have HOf := Lib.hid hr; have HLe := Lib.hid ho; clear t1 t2 hb ho hr))
    | fail)
  go_loopw [7, 8, 9, 10, 11] (fun V I _ _ _ wr => ∃ (q : Nat) (A' : Option Addr) (c' : Nat), V = .slice A' q c' ∧ I = .int .i64 q ∧ q ≤ P.length ∧ Hid (wr.ownsRow w2.heap.size 60 3 (.slice A' q c') q (ccs WD RG (P.take q))) ∧ Hid (Below w2.heap.size w2 wr)) (fun _ I _ _ _ _ => P.length - (intOf I).toNat)
  case atStart => exact ⟨0, none, 0, rfl, rfl, Nat.zero_le _, World.ownsRow_nil _ _ _ _, Below.refl _ _⟩
  case round =>
    obtain ⟨q, A', c', rfl, rfl, hq, HO, HB⟩ := hrel
    have hsz := HB.out.size
    by_cases hlt : q < P.length
    · have hqi : (q : Int) < (P.length : Int) := by omega
      obtain ⟨gl, rfl⟩ : ∃ gl, A = some ⟨gl, 0, none⟩ := by
        rcases HLe.out.2 with ⟨_, h⟩ | ⟨gl, _, _, h, _⟩
        · omega
        · cases h; exact ⟨gl, rfl⟩
      have hc := HLe.out.cells (g := gl) rfl _ _ (zs_get (iz P) q (by rw [iz_len]; exact hlt))
      rw [addr_add2, Nat.zero_add] at hc
      have hgl2 := (HLe.out.lt gl rfl).2
      have hcell : wr.cell? ⟨gl, q, none⟩ = some (.int .i64 (P[q] : Nat)) := by
        rw [show (iz P)[q]'(by rw [iz_len]; exact hlt) = ((P[q] : Nat) : Int) by simp [iz]] at hc
        exact (HB.out.cell (p := ⟨gl, q, none⟩) hgl2).trans hc
      clear hc
      have hp := HCe.out _ (List.getElem_mem hlt)
      have HIff : Hid (∀ j, j < n → (u P[q] j = true ↔ C j = (q : Int))) := fun j hj => HCi.out j hj q hlt
      have HTake : Hid (P.take (q + 1) = P.take q ++ [P[q]]) := List.take_succ_eq_append_getElem hlt
      have HCq := Lib.hid (HCnt.out P[q] hp)
      have HRmq := Lib.hid (HRm.out P[q] hp)
      have HRoq := Lib.hid (HRo.out P[q] hp)
      generalize P[q] = p at *
      have HWle : Hid (W0f p ≤ n) := by show _ ≤ _; rw [← HCq.out]; exact cntB_le _ _
      obtain ⟨hper, hperle⟩ := perO_spec HPt.out hp
      have hper1 := hper.pos
      have HCy := Lib.hid (fun (W : World) (hb : Below w.heap.size w W) => rcycle_any (cT := cT) W ((HTr.out.below hb).mono hb.size) HPt.out hp hper hperle hle)
      clear hper
      generalize perO f n p = c1 at *
      go_upto_region 10 with fail
      have X0 : Hid ((wr.alloc (.cells #[.int .i64 (p : Nat), .int .i64 0, .bool true] 60)).heap[wr.heap.size]? = some (.cells #[.int .i64 (p : Nat), .int .i64 (cntB (u p) 0 : Nat), .bool true] 60 (0, 0))) := heap_alloc_new wr _
      have Y0 : Hid (Below wr.heap.size wr (wr.alloc (.cells #[.int .i64 (p : Nat), .int .i64 0, .bool true] 60))) := below1 wr _
      obtain ⟨W3, hW3⟩ : ∃ W3, W3 = wr.alloc (.cells #[.int .i64 (p : Nat), .int .i64 0, .bool true] 60) := ⟨_, rfl⟩
      rw [← hW3] at X0 Y0 ⊢
      clear hW3 hcell
      go_wp2
      obtain ⟨wo, hwo⟩ : ∃ wo, wo = wr := ⟨_, rfl⟩
      subst hwo
      go_loopw [10] (fun I wi => ∃ (i : Nat), I = .int .i64 i ∧ i ≤ n ∧ Hid (wi.heap[wo.heap.size]? = some (.cells #[.int .i64 (p : Nat), .int .i64 (cntB (u p) i : Nat), .bool true] 60 (0, 0))) ∧ Hid (Below wo.heap.size wo wi)) (fun I _ => n - (intOf I).toNat)
      case atStart => exact ⟨0, rfl, Nat.zero_le _, X0.out, Y0.out⟩
      case round =>
        clear X0 Y0
        obtain ⟨i, rfl, hi, HX, HY⟩ := hrel
        have HX0 := Lib.hid HX.out
        obtain ⟨⟨x0, x1, x2⟩, fx⟩ := threeC_of_block HX.out
        by_cases hin : i < n
        · have hini : (i : Int) < (n : Int) := by omega
          have hof := HOf.out.cell (i := i) hin
          have hof2 := ((HB.out.trans (HY.out.mono hsz)).cell (p := ⟨bo, i, none⟩) HOf.out.lt).trans hof
          have hcl := cntB_le (u p) i
          have hif := HIff.out i hin
          have hCr := HCr.out i
          have HSt := Lib.hid (cnt_step (u p) i)
          have HYs : Hid (Below wo.heap.size wo (wr.setCell ⟨wo.heap.size, 1, none⟩ (.int .i64 ((cntB (u p) i : Nat) + 1 : Int)))) := HY.out.setCell (Nat.le_refl _) _
          have HXs := Lib.hid (three_set1 HX.out (.int .i64 ((cntB (u p) i : Nat) + 1 : Int)))
          clear hof HX
          by_cases hu : u p i = true
          · have hCq : C i = (q : Int) := hif.1 hu
            have hce : cntB (u p) (i + 1) = cntB (u p) i + 1 := by rw [HSt.out, if_pos hu]
            have HCE := Lib.hid hce
            rw [hCq] at hof2
            clear hu hif hCr hCq hce HSt
            generalize cntB (u p) i = m at *
            go_wp2
            go_roundw
            case rel => exact ⟨i + 1, by go_num, by omega, by rw [HCE.out]; exact HXs.out, HYs.out⟩
            case measure => simp [intOf]; omega
          · have hCq : ¬ C i = (q : Int) := fun e => hu (hif.2 e)
            have hce : cntB (u p) (i + 1) = cntB (u p) i := by rw [HSt.out, if_neg hu]; rfl
            have HCE := Lib.hid hce
            have HXk : Hid (wr.heap[wo.heap.size]? = some (.cells #[.int .i64 (p : Nat), .int .i64 (cntB (u p) i : Nat), .bool true] 60 (0, 0))) := HX0.out
            have hCb : (C i + 1 == (q : Int) + 1) = false := by simp; omega
            clear hu hif hCr hCq hce HSt
            generalize cntB (u p) i = m at *
            generalize C i + 1 = y at *
            go_wp2
            go_roundw
            case rel => exact ⟨i + 1, by go_num, by omega, by rw [HCE.out]; exact HXk.out, HY.out⟩
            case measure => simp [intOf]; omega
        · obtain rfl : i = n := by omega
          have hin2 : ¬ (i : Int) < (i : Int) := by omega
          have HXe : Hid (wr.heap[wo.heap.size]? = some (.cells #[.int .i64 (p : Nat), .int .i64 (W0f p : Nat), .bool true] 60 (0, 0))) := by
            have := HX0.out
            rw [HCq.out] at this
            exact this
          have HBi := Lib.hid (HB.out.trans (HY.out.mono hsz))
          have hwr : w2.heap.size ≤ wr.heap.size := HBi.out.size
          have hlt2 := lt_of_block T2.out
          have HT3 : Hid (wr.heap[w.heap.size]? = some (.cells #[.slice (some ⟨bS, oS, none⟩) i cS, .slice (some ⟨bT, oT, none⟩) i cT] 24 (0, 0))) := (HBi.out.block _ hlt2).trans T2.out
          have hgne : w.heap.size < wo.heap.size := Nat.lt_of_lt_of_le hlt2 hsz
          have HBw := Lib.hid (bel0 HB2.out (HBi.out))
          have hwv := HWle.out
          obtain ⟨⟨t1, t2⟩, _⟩ := two_of_block HT3.out
          clear HX0 fx x0 x1 x2
          cases mi
          case true =>
            obtain ⟨hrg, hwd⟩ := HRmq.out rfl
            rw [← hwd] at HXe
            clear HRmq HRoq hwv
            have HRg := Lib.hid hrg
            clear hrg hwd
            obtain ⟨⟨x0, x1, x2⟩, fx⟩ := threeC_of_block HXe.out
            go_wp2_with (first
              | (go_at_call 31; ((with_reducible refine (HMi.out _ HBw.out).mono ?_); rintro e W9 ⟨rfl, hb⟩; have HBW := Lib.hid (HBi.out.trans (hb.mono hwr)); have HXf := Lib.hid (block_below HXe.out hb); have hown := own_below HO.out (HY.out.trans (hb.mono HY.out.size)); have hbz := HBW.out.size; rw [← HRg.out] at HXf; clear x0 x1 x2 fx; obtain ⟨⟨x0, x1, x2⟩, fx⟩ := threeC_of_block HXf.out; have hxl := lt_of_block HXf.out; clear hb))
              | (at_builtin; (refine wpList_append_own_at _ rfl _ _ 54 rfl w2.heap.size 60 i0 (.agg #[.int .i64 0, .int .i64 0, .bool false]) 3 24 Try.underlying54 hi0 z0 z1 z2 rfl (by decide) _ _ _ rfl (hown.alloc _) ⟨W9.heap.size, 0, none⟩ 1 1 [.int .i64 (p : Nat), .int .i64 (WD p : Nat), .bool (RG p)] rfl rfl (cell_three_new _ _ _ _ _ rfl) (fun x hx => by simp at hx; rcases hx with rfl | rfl | rfl <;> rfl) (by unfold maxLen; omega) (by omega) (by simp; omega) ?_); intro v' w9 hown9 hg9 hnil9 hat9; obtain ⟨A9, c9, rfl⟩ := own_len hown9; have HO9 := Lib.hid hown9; have HB9 : Hid (Below w2.heap.size w2 w9) := (HBW.out.alloc HBW.out.size _).grown hg9 (by have := HBW.out.size; simp; omega) (fun j hj => (hown.lt j hj).1); clear hown9 hg9 hnil9 hat9)
              | fail)
            go_roundw
            case rel => exact ⟨q + 1, A9, c9, rfl, by go_num, hlt, by rw [HTake.out, ccs_push]; exact HO9.out, HB9.out⟩
            case measure => simp [intOf]; omega
          case false =>
            obtain ⟨hrg, hwd⟩ := HRoq.out rfl
            clear HRmq HRoq
            obtain ⟨⟨x0, x1, x2⟩, fx⟩ := threeC_of_block HXe.out
            have hq2 : ((W0f p : Nat) : Int) / 2 = (WD p : Nat) := by rw [hwd]; omega
            obtain ⟨r, hr⟩ : ∃ r, r = WD p % c1 := ⟨_, rfl⟩
            have hmod : ((WD p : Nat) : Int) % (c1 : Int) = (r : Int) := by rw [hr]; exact (Int.natCast_emod _ _).symm
            have hbool : ((r : Int) == 0) = RG p := by rw [hrg, hr, hwd, show (0 : Int) = ((0 : Nat) : Int) from rfl, rgt_iff]
            have hwdl : WD p ≤ 1152 := by omega
            clear hrg hwd hr
            go_upto_region 19 with (first
              | (go_at_call 31; ((with_reducible refine (HMi.out _ HBw.out).mono ?_); rintro e w4 ⟨rfl, hb⟩; have HB4 := Lib.hid (HY.out.trans (hb.mono HY.out.size)); have HX4 := Lib.hid (block_below HXe.out hb); have HX5 := Lib.hid (three_set1 HX4.out (.int .i64 (WD p : Nat))); have HB5 : Hid (Below wo.heap.size wo (w4.setCell ⟨wo.heap.size, 1, none⟩ (.int .i64 (WD p : Nat)))) := HB4.out.setCell (Nat.le_refl _) _; have HT5 : Hid ((w4.setCell ⟨wo.heap.size, 1, none⟩ (.int .i64 (WD p : Nat))).heap[w.heap.size]? = some (.cells #[.slice (some ⟨bS, oS, none⟩) i cS, .slice (some ⟨bT, oT, none⟩) i cT] 24 (0, 0))) := set_ne (block_below HT3.out hb) (by omega) _; have HBc : Hid (Below w.heap.size w (w4.setCell ⟨wo.heap.size, 1, none⟩ (.int .i64 (WD p : Nat)))) := bel0 HB2.out (HB.out.trans (HB5.out.mono hsz)); clear x0 x1 x2 fx t1 t2; obtain ⟨⟨y0, y1, y2⟩, fy⟩ := threeC_of_block HX4.out; obtain ⟨⟨x0, x1, x2⟩, fx⟩ := threeC_of_block HX5.out; obtain ⟨⟨t1, t2⟩, _⟩ := two_of_block HT5.out; clear hb))
              | (go_at_call 57; ((with_reducible refine (HCy.out _ HBc.out).mono ?_); rintro e w6 ⟨g6, c6, rfl, _, hb⟩; have HB6 := Lib.hid (HB5.out.trans (hb.mono HB5.out.size)); have HX6 := Lib.hid (block_below HX5.out hb); clear x0 x1 x2 fx t1 t2 y0 y1 y2 fy; obtain ⟨⟨x0, x1, x2⟩, fx⟩ := threeC_of_block HX6.out; have hxl := lt_of_block HX6.out; have HX7 := Lib.hid (three_set2 HX6.out (.bool (RG p))); have HB7 : Hid (Below wo.heap.size wo (w6.setCell ⟨wo.heap.size, 2, none⟩ (.bool (RG p)))) := HB6.out.setCell (Nat.le_refl _) _; clear hb))
              | fail)
            obtain ⟨W9, hW9⟩ : ∃ W9, W9 = w6.setCell ⟨wo.heap.size, 2, none⟩ (.bool (RG p)) := ⟨_, rfl⟩
            rw [← hW9] at HX7 HB7 ⊢
            clear hW9 x0 x1 x2 fx hxl hbool hmod hq2
            have HBW := Lib.hid (HB.out.trans (HB7.out.mono hsz))
            have hown := own_below HO.out HB7.out
            have hbz := HBW.out.size
            obtain ⟨⟨x0, x1, x2⟩, fx⟩ := threeC_of_block HX7.out
            have hxl := lt_of_block HX7.out
            go_wp2_with (first
              | (at_builtin; (refine wpList_append_own_at _ rfl _ _ 54 rfl w2.heap.size 60 i0 (.agg #[.int .i64 0, .int .i64 0, .bool false]) 3 24 Try.underlying54 hi0 z0 z1 z2 rfl (by decide) _ _ _ rfl (hown.alloc _) ⟨W9.heap.size, 0, none⟩ 1 1 [.int .i64 (p : Nat), .int .i64 (WD p : Nat), .bool (RG p)] rfl rfl (cell_three_new _ _ _ _ _ rfl) (fun x hx => by simp at hx; rcases hx with rfl | rfl | rfl <;> rfl) (by unfold maxLen; omega) (by omega) (by simp; omega) ?_); intro v' w9 hown9 hg9 hnil9 hat9; obtain ⟨A9, c9, rfl⟩ := own_len hown9; have HO9 := Lib.hid hown9; have HB9 : Hid (Below w2.heap.size w2 w9) := (HBW.out.alloc HBW.out.size _).grown hg9 (by have := HBW.out.size; simp; omega) (fun j hj => (hown.lt j hj).1); clear hown9 hg9 hnil9 hat9)
              | fail)
            go_roundw
            case rel => exact ⟨q + 1, A9, c9, rfl, by go_num, hlt, by rw [HTake.out, ccs_push]; exact HO9.out, HB9.out⟩
            case measure => simp [intOf]; omega
    · obtain rfl : q = P.length := by omega
      have hq2 : ¬ (P.length : Int) < (P.length : Int) := by omega
      have HTk : Hid (P.take P.length = P) := List.take_length
      go_wp2
      go_ret2
      refine ⟨A', c', rfl, ?_, bel0 HB2.out HB.out⟩
      have h9 := HO.out
      rw [HTk.out] at h9
      exact own_base HB2.out.size h9
end Go.Proofs.Ytmikhkolbkdnpaa
