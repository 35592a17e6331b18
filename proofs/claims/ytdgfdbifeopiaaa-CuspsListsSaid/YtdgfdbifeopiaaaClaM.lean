/- The contracts of Class, of the code and of the reference. The contracts of Classes, of the code and of the reference. -/
import Derived.Test.YtdgfdbifeopiaaaClM
namespace Go.Proofs.Ytdgfdbifeopiaaa
open Go.RowKit
set_option linter.unusedVariables false
set_option linter.unusedSimpArgs false

/-- The class of each point of an action. -/
def clsC (S T : List Int) : Nat → Int := (cst (uB (fnz T) (fun i => fnz S (fnz S i)) S.length) S.length).1
noncomputable def clsE (S T : List Int) (i : Int) : Int := if chkA S T = 0 then (if i < 0 ∨ (S.length : Int) ≤ i then 2 else 0) else chkA S T
noncomputable def clsV (S T : List Int) (i : Int) : Int := if clsE S T i = 0 then clsC S T i.toNat else 0
theorem cls_bad {S T : List Int} {i : Int} (h : chkA S T ≠ 0) : clsE S T i = chkA S T ∧ clsV S T i = 0 := by
  have e : clsE S T i = chkA S T := if_neg h
  exact ⟨e, by unfold clsV; rw [e, if_neg h]⟩
theorem cls_out {S T : List Int} {i : Int} (h : chkA S T = 0) (hi : i < 0 ∨ (S.length : Int) ≤ i) : clsE S T i = 2 ∧ clsV S T i = 0 := by
  have e : clsE S T i = 2 := by unfold clsE; rw [if_pos h, if_pos hi]
  exact ⟨e, by unfold clsV; rw [e]; rfl⟩
theorem cls_in {S T : List Int} {i : Nat} (h : chkA S T = 0) (hi : i < S.length) : clsE S T i = 0 ∧ clsV S T i = clsC S T i := by
  have e : clsE S T i = 0 := by unfold clsE; rw [if_pos h, if_neg (by omega)]
  exact ⟨e, by unfold clsV; rw [e, if_pos rfl]; rfl⟩
/-- What comes in reads as an action where the check says so. -/
theorem ai_of {w : World} {S T : List Int} {B cS cT : Nat} {AS AT : Option Addr} (hS : RdZ w B AS cS S) (hT : RdZ w B AT cT T) (hB : B ≤ w.heap.size) (ha : Act2 S T) : ∃ bS oS bT oT, AS = some ⟨bS, oS, none⟩ ∧ AT = some ⟨bT, oT, none⟩ ∧ AI w B bS oS bT oT S T cS cT := by
  have hpos := ha.pos
  obtain ⟨bS, oS, rfl, rS⟩ := hS.rdn ha.s hpos
  obtain ⟨bT, oT, rfl, rT⟩ := hT.rdn ha.t (by rw [ha.len]; exact hpos)
  rw [ha.len] at rT
  exact ⟨bS, oS, bT, oT, rfl, rfl, ha, hS, hT, rS, rT, hB⟩
end Go.Proofs.Ytdgfdbifeopiaaa
namespace Go.Proofs.Ytdgfdbifeopiaaa
open Go.RowKit
set_option linter.unusedVariables false
set_option linter.unusedSimpArgs false

def mnB (S : List Int) : Bool := decide (fnz S (fnz S 0) = 0)
def wdF (S T : List Int) : Nat → Nat := widM (mnB S) (fnz T) (fun i => fnz S (fnz S i)) S.length
def rgF (S T : List Int) : Nat → Bool := fun p => decide (perO (fnz T) S.length p = wdF S T p)
/-- The least points of the classes. -/
noncomputable def clP (S T : List Int) : List Nat := if chkA S T = 0 then (cst (uB (fnz T) (fun i => fnz S (fnz S i)) S.length) S.length).2 else []
theorem clP_ok {S T : List Int} (h : chkA S T = 0) : clP S T = (cst (uB (fnz T) (fun i => fnz S (fnz S i)) S.length) S.length).2 := if_pos h
theorem clP_bad {S T : List Int} (h : chkA S T ≠ 0) : clP S T = [] := if_neg h
set_option maxHeartbeats 3200000 in
set_option maxRecDepth 1000000 in
theorem cclasses_any {S T : List Int} {B cS cT : Nat} {AS AT : Option Addr} (w : World) (hS : RdZ w B AS cS S) (hT : RdZ w B AT cT T) (hB : B ≤ w.heap.size) :
    Calls Try.prog 7 #[.agg #[.slice AS S.length cS, .slice AT T.length cT]] w fun e w' => ∃ A c, e = .returned (.tuple #[.slice A (clP S T).length c, .int .i64 (chkA S T)]) ∧ w'.ownsRow w.heap.size 36 3 (.slice A (clP S T).length c) (clP S T).length (ccs (wdF S T) (rgF S T) (clP S T)) ∧ Below w.heap.size w w' := by
  have T0 : Hid ((w.alloc (.cells #[.slice AS S.length cS, .slice AT T.length cT] 25)).heap[w.heap.size]? = some (.cells #[.slice AS S.length cS, .slice AT T.length cT] 25 (0, 0))) := heap_alloc_new w _
  have HB0 : Hid (Below w.heap.size w (w.alloc (.cells #[.slice AS S.length cS, .slice AT T.length cT] 25))) := below1 w _
  have HCk : Hid (∀ W, Below w.heap.size w W → Calls Try.prog 17 #[.agg #[.slice AS S.length cS, .slice AT T.length cT]] W fun e w' => e = .returned (.int .i64 (chkA S T)) ∧ Below W.heap.size W w') := fun W hb => pcheck_any W (hS.below (hb.mono hB)) (hT.below (hb.mono hB)) (Nat.le_trans hB hb.size)
  by_cases hc : chkA S T = 0
  case neg =>
    rw [clP_bad hc]
    have hcb : (chkA S T == 0) = false := by simpa using hc
    clear hc hS hT
    generalize chkA S T = z at *
    go_enter Try.func7, Try.ntmps7
    go_wp2_with (first
      | (go_at_call 17; ((with_reducible refine (HCk.out _ HB0.out).mono ?_); rintro e w1 ⟨rfl, hb⟩; have HB1 := Lib.hid (bel0 HB0.out hb); clear hb))
      | fail)
    go_ret2
    exact ⟨none, 0, rfl, World.ownsRow_nil _ _ _ _, HB1.out⟩
  have ha := chkA_zero hc
  obtain ⟨bS, oS, bT, oT, rfl, rfl, hAI⟩ := ai_of hS hT hB ha
  rw [ha.len] at T0 HB0 HCk ⊢
  rw [clP_ok hc]
  rw [hc] at HCk ⊢
  have HCl := Lib.hid (fun W (hb : Below w.heap.size w W) => classes_any W (hAI.below hb) (mnB S) rfl (wdF S T) rfl (rgF S T) rfl)
  clear hS hT hc hAI ha
  generalize (cst (uB (fnz T) (fun i => fnz S (fnz S i)) S.length) S.length).2 = P at *
  go_enter Try.func7, Try.ntmps7
  go_wp2_with (first
    | (go_at_call 17; ((with_reducible refine (HCk.out _ HB0.out).mono ?_); rintro e w1 ⟨rfl, hb⟩; have HB1 := Lib.hid (bel0 HB0.out hb); have T1 := Lib.hid (block_below T0.out hb); obtain ⟨⟨t1, t2⟩, _⟩ := two_of_block T1.out; clear hb))
    | (go_at_call 18; ((with_reducible refine (HCl.out _ HB1.out).mono ?_); rintro e w2 ⟨A, c, bc, rfl, ho, _, hb⟩; have HB2 := Lib.hid (bel0 HB1.out hb); have HO := Lib.hid (own_base HB1.out.size ho); clear hb ho))
    | fail)
  go_ret2
  exact ⟨A, c, rfl, HO.out, HB2.out⟩
theorem threeC_of_block {w : World} {g : Nat} {a b c : Value} {t : TypeId} (h : w.heap[g]? = some (.cells #[a, b, c] t (0, 0))) :
    (w.cell? ⟨g, 0, none⟩ = some a ∧ w.cell? ⟨g, 1, none⟩ = some b ∧ w.cell? ⟨g, 2, none⟩ = some c) ∧ (∀ j, w.frozen? ⟨g, j, none⟩ = false) :=
  ⟨⟨by rw [cell_of_row w g 0 _ t _ h]; rfl, by rw [cell_of_row w g 1 _ t _ h]; rfl, by rw [cell_of_row w g 2 _ t _ h]; rfl⟩, fun j => frozen_of_row w g j _ t h⟩
theorem three_set1 {w : World} {g : Nat} {a b c : Value} {t : TypeId} (h : w.heap[g]? = some (.cells #[a, b, c] t (0, 0))) (b' : Value) :
    (w.setCell ⟨g, 1, none⟩ b').heap[g]? = some (.cells #[a, b', c] t (0, 0)) := heap_setCell_same _ g 1 #[a, b, c] t b' h
theorem three_set2 {w : World} {g : Nat} {a b c : Value} {t : TypeId} (h : w.heap[g]? = some (.cells #[a, b, c] t (0, 0))) (c' : Value) :
    (w.setCell ⟨g, 2, none⟩ c').heap[g]? = some (.cells #[a, b, c'] t (0, 0)) := heap_setCell_same _ g 2 #[a, b, c] t c' h
/-- What the reference's regularity says, in the code's words. -/
theorem rg_minus {S T : List Int} (ha : Act2 S T) {p : Nat} (hp : p < S.length) (hm : mnB S = true) : rgF S T p = true ∧ wdF S T p = wid0 (fnz T) (fun i => fnz S (fnz S i)) S.length p := by
  have h0 : fnz S (fnz S 0) = 0 := by simpa [mnB] using hm
  have hz := rel_inv ha.ps ha.pt ha.rel
  have hf := (all_fix ha.ps ha.pt (by have := ha.pos; omega) hz ha.full hp).2 h0
  have e : wdF S T p = wid0 (fnz T) (fun i => fnz S (fnz S i)) S.length p := by unfold wdF widM; rw [hm]; rfl
  refine ⟨?_, e⟩
  unfold rgF
  rw [e, wid0_fix ha.pt hp hf]
  simp
theorem rg_other {S T : List Int} (ha : Act2 S T) {p : Nat} (hp : p < S.length) (hm : mnB S = false) : rgF S T p = decide (wid0 (fnz T) (fun i => fnz S (fnz S i)) S.length p / 2 % perO (fnz T) S.length p = 0) ∧ wdF S T p = wid0 (fnz T) (fun i => fnz S (fnz S i)) S.length p / 2 := by
  have h0 : fnz S (fnz S 0) ≠ 0 := by simpa [mnB] using hm
  have hz := rel_inv ha.ps ha.pt ha.rel
  have hf : fnz S (fnz S p) ≠ p := fun e => h0 ((all_fix ha.ps ha.pt (by have := ha.pos; omega) hz ha.full hp).1 e)
  have e : wdF S T p = wid0 (fnz T) (fun i => fnz S (fnz S i)) S.length p / 2 := by unfold wdF widM; rw [hm]; rfl
  refine ⟨?_, e⟩
  unfold rgF
  rw [e, decide_eq_decide]
  exact regular_eq ha.pt hz hp hf
theorem rgt_iff (a b : Nat) : (((a : Int) == (b : Int)) : Bool) = decide (a = b) := by rw [Bool.eq_iff_iff]; simp; omega
end Go.Proofs.Ytdgfdbifeopiaaa
