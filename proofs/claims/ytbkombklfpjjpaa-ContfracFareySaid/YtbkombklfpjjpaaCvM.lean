/- Plain mathematics of convergents: lists of elements, and the recursion. -/
import Derived.Test.YtbkombklfpjjpaaCfM
namespace Go.Proofs.Ytbkombklfpjjpaa

/-- The elements of a list that may have convergents. -/
def ElK (l : List Int) (k : Nat) : Prop := ∀ j (h : j < l.length), j < k → inE l[j] = true ∧ (0 < j → 1 ≤ l[j])
theorem ElK.next {l : List Int} {k : Nat} (h : ElK l k) (hk : k < l.length) (h1 : inE l[k] = true) (h2 : 0 < k → 1 ≤ l[k]) : ElK l (k + 1) := by
  intro j hj hjk
  by_cases e : j = k
  · subst e; exact ⟨h1, h2⟩
  · exact h j hj (by omega)
open Classical in
/-- The error of Convergents for the list alone: 3 for the empty one, 2 for one of other elements. -/
noncomputable def elB (l : List Int) : Bool := decide (l.length ≤ 64 ∧ ElK l l.length)
open Classical in
theorem elB_yes {l : List Int} (h1 : l.length ≤ 64) (h2 : ElK l l.length) : elB l = true := decide_eq_true ⟨h1, h2⟩
open Classical in
theorem elB_long {l : List Int} (h : 64 < l.length) : elB l = false := decide_eq_false fun k => by have := k.1; omega
open Classical in
theorem elB_at {l : List Int} {k : Nat} (hk : k < l.length) (h : ¬ (inE l[k] = true ∧ (0 < k → 1 ≤ l[k]))) : elB l = false := decide_eq_false fun e => h (e.2 k hk hk)
open Classical in
theorem elB_of {l : List Int} (h : elB l = true) : l.length ≤ 64 ∧ ElK l l.length := of_decide_eq_true h

/-- The convergents behind two that are known, or nothing where one is too large. -/
def cvg : Int → Int → Int → Int → List Int → Option (List (Int × Int))
  | _, _, _, _, [] => some []
  | bp, bq, lp, lq, n :: l => if inE (n * lp + bp) = true ∧ inE (n * lq + bq) = true then (cvg lp lq (n * lp + bp) (n * lq + bq) l).map (((n * lp + bp), (n * lq + bq)) :: ·) else none
theorem cvg_next {bp bq lp lq n : Int} {l : List Int} (h1 : inE (n * lp + bp) = true) (h2 : inE (n * lq + bq) = true) :
    cvg bp bq lp lq (n :: l) = (cvg lp lq (n * lp + bp) (n * lq + bq) l).map (((n * lp + bp), (n * lq + bq)) :: ·) := if_pos ⟨h1, h2⟩
theorem cvg_large {bp bq lp lq n : Int} {l : List Int} (h : ¬ (inE (n * lp + bp) = true ∧ inE (n * lq + bq) = true)) : cvg bp bq lp lq (n :: l) = none := if_neg h
/-- On the way: the first k elements are used, (bp, bq) and (lp, lq) are the last two, C is the list. -/
structure Cvs (l : List Int) (k : Nat) (bp bq lp lq : Int) (C : List (Int × Int)) : Prop where
  hk : k ≤ l.length
  b0 : inE bp = true
  b1 : inE bq = true
  l0 : inE lp = true
  l1 : inE lq = true
  p0 : 0 ≤ bq
  p1 : 0 ≤ lq
  z : k = 0 → lq = 0 ∧ bq = 1
  len : C.length = k
  eq : (cvg bp bq lp lq (l.drop k)).map (C ++ ·) = cvg 0 1 1 0 l
theorem Cvs.start (l : List Int) : Cvs l 0 0 1 1 0 [] := by
  refine ⟨Nat.zero_le _, by decide, by decide, by decide, by decide, by decide, by decide, fun _ => ⟨rfl, rfl⟩, rfl, ?_⟩
  rw [List.drop_zero]
  cases cvg 0 1 1 0 l <;> rfl
section
variable {l : List Int} {k : Nat} {bp bq lp lq : Int} {C : List (Int × Int)}
theorem Cvs.done (h : Cvs l l.length bp bq lp lq C) : cvg 0 1 1 0 l = some C := by
  have e := h.eq
  rw [List.drop_length] at e
  rw [← e]; show some (C ++ []) = _; rw [List.append_nil]
theorem Cvs.nonneg (h : Cvs l k bp bq lp lq C) (hk : k < l.length) (hn : 0 < k → 1 ≤ l[k]) : 0 ≤ l[k] * lq + bq := by
  have := h.p0
  have h1 := h.p1
  by_cases e : k = 0
  · obtain ⟨e1, e2⟩ := h.z e
    rw [e1, e2]; omega
  · have := Int.mul_nonneg (show 0 ≤ l[k] by have := hn (by omega); omega) h1
    omega
theorem Cvs.large (h : Cvs l k bp bq lp lq C) (hk : k < l.length) (hn : ¬ (inE (l[k] * lp + bp) = true ∧ inE (l[k] * lq + bq) = true)) : cvg 0 1 1 0 l = none := by
  rw [← h.eq, List.drop_eq_getElem_cons hk, cvg_large hn]; rfl
theorem Cvs.next (h : Cvs l k bp bq lp lq C) (hk : k < l.length) (hn : 0 < k → 1 ≤ l[k]) (h1 : inE (l[k] * lp + bp) = true) (h2 : inE (l[k] * lq + bq) = true) :
    Cvs l (k + 1) lp lq (l[k] * lp + bp) (l[k] * lq + bq) (C ++ [(l[k] * lp + bp, l[k] * lq + bq)]) := by
  refine ⟨hk, h.l0, h.l1, h1, h2, h.p1, h.nonneg hk hn, fun e => by omega, by simp [h.len], ?_⟩
  rw [← h.eq, List.drop_eq_getElem_cons hk, cvg_next h1 h2]
  cases cvg lp lq (l[k] * lp + bp) (l[k] * lq + bq) (l.drop (k + 1)) with
  | none => rfl
  | some X => simp
end
end Go.Proofs.Ytbkombklfpjjpaa
