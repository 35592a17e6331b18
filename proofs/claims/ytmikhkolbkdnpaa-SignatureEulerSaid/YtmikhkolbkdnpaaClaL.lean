/- The contracts of Class, of the code and of the reference. -/
import Derived.Test.YtmikhkolbkdnpaaRClsL
namespace Go.Proofs.Ytmikhkolbkdnpaa
open Go.RowKit
set_option linter.unusedVariables false
set_option linter.unusedSimpArgs false

/-- The class of each point of an action. -/
def clsC (S T : List Int) : Nat → Int := (cst (uB (fnz T) (fun i => fnz S (fnz S i)) S.length) S.length).1
noncomputable def clsE (S T : List Int) (i : Int) : Int := if chkA S T = 0 then (if i < 0 ∨ (S.length : Int) ≤ i then 2 else 0) else chkA S T
noncomputable def clsV (S T : List Int) (i : Int) : Int := if clsE S T i = 0 then clsC S T i.toNat else 0
theorem cls_bad {S T : List Int} {i : Int} (h : chkA S T ≠ 0) : clsE S T i = chkA S T ∧ clsV S T i = 0 := by
  have e : clsE S T i = chkA S T := if_neg h
  exact ⟨e, by unfold clsV; rw [e, if_neg h]⟩
theorem cls_out {S T : List Int} {i : Int} (h : chkA S T = 0) (hi : i < 0 ∨ (S.length : Int) ≤ i) : clsE S T i = 2 ∧ clsV S T i = 0 := by
  have e : clsE S T i = 2 := by unfold clsE; rw [if_pos h, if_pos hi]
  exact ⟨e, by unfold clsV; rw [e]; rfl⟩
theorem cls_in {S T : List Int} {i : Nat} (h : chkA S T = 0) (hi : i < S.length) : clsE S T i = 0 ∧ clsV S T i = clsC S T i := by
  have e : clsE S T i = 0 := by unfold clsE; rw [if_pos h, if_neg (by omega)]
  exact ⟨e, by unfold clsV; rw [e, if_pos rfl]; rfl⟩
/-- What comes in reads as an action where the check says so. -/
theorem ai_of {w : World} {S T : List Int} {B cS cT : Nat} {AS AT : Option Addr} (hS : RdZ w B AS cS S) (hT : RdZ w B AT cT T) (hB : B ≤ w.heap.size) (ha : Act2 S T) : ∃ bS oS bT oT, AS = some ⟨bS, oS, none⟩ ∧ AT = some ⟨bT, oT, none⟩ ∧ AI w B bS oS bT oT S T cS cT := by
  have hpos := ha.pos
  obtain ⟨bS, oS, rfl, rS⟩ := hS.rdn ha.s hpos
  obtain ⟨bT, oT, rfl, rT⟩ := hT.rdn ha.t (by rw [ha.len]; exact hpos)
  rw [ha.len] at rT
  exact ⟨bS, oS, bT, oT, rfl, rfl, ha, hS, hT, rS, rT, hB⟩
end Go.Proofs.Ytmikhkolbkdnpaa
