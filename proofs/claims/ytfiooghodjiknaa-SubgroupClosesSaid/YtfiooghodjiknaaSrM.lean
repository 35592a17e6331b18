/- Plain mathematics: the search for the cosets, its states. -/
import Derived.Test.YtfiooghodjiknaaVisA
namespace Go.Proofs.Ytfiooghodjiknaa
open Go.RowKit
set_option linter.unusedVariables false

abbrev M4 := Int × Int × Int × Int
def mS (m : M4) : M4 := (m.2.1, -m.1, m.2.2.2, -m.2.2.1)
def mT (m : M4) : M4 := (m.1, m.1 + m.2.1, m.2.2.1, m.2.2.1 + m.2.2.2)
def mc (m : M4) : List Value := [.int .i64 m.1, .int .i64 m.2.1, .int .i64 m.2.2.1, .int .i64 m.2.2.2]
def ms (L : List M4) : List Value := L.flatMap mc
theorem ms_append (L : List M4) (m : M4) : ms (L ++ [m]) = ms L ++ mc m := by simp [ms]
theorem ms_length : ∀ L : List M4, (ms L).length = L.length * 4
  | [] => rfl
  | m :: L => by
    have h : ms (m :: L) = mc m ++ ms L := rfl
    rw [h, List.length_append, ms_length L, List.length_cons]
    show 4 + _ = _
    omega
theorem ms_at : ∀ (L : List M4) {i : Nat} (h : i < L.length), (ms L)[i * 4]? = some (.int .i64 L[i].1) ∧ (ms L)[i * 4 + 1]? = some (.int .i64 L[i].2.1) ∧ (ms L)[i * 4 + 2]? = some (.int .i64 L[i].2.2.1) ∧ (ms L)[i * 4 + 3]? = some (.int .i64 L[i].2.2.2)
  | m :: L, 0, h => ⟨rfl, rfl, rfl, rfl⟩
  | m :: L, i + 1, h => by
    have e : ms (m :: L) = mc m ++ ms L := rfl
    have ih := ms_at L (i := i) (by simpa using h)
    have hl : (mc m).length = 4 := rfl
    rw [e]
    refine ⟨?_, ?_, ?_, ?_⟩
    · rw [List.getElem?_append_right (by omega), show (i + 1) * 4 - (mc m).length = i * 4 by omega]; exact ih.1
    · rw [List.getElem?_append_right (by omega), show (i + 1) * 4 + 1 - (mc m).length = i * 4 + 1 by omega]; exact ih.2.1
    · rw [List.getElem?_append_right (by omega), show (i + 1) * 4 + 2 - (mc m).length = i * 4 + 2 by omega]; exact ih.2.2.1
    · rw [List.getElem?_append_right (by omega), show (i + 1) * 4 + 3 - (mc m).length = i * 4 + 3 by omega]; exact ih.2.2.2
/-- The keys and the matrices behind a visit. -/
def lNext (K : List K4) (x : K4) (L : List M4) (m : M4) : List M4 := if K.contains x = true then L else L ++ [m]
theorem xNext_ms (K : List K4) (x : K4) (L : List M4) (m : M4) : xNext K x (ms L) (mc m) = ms (lNext K x L m) := by
  unfold xNext lNext
  by_cases h : K.contains x = true
  · rw [if_pos h, if_pos h]
  · rw [if_neg h, if_neg h, ms_append]
theorem next_len {K : List K4} {x : K4} {L : List M4} {m : M4} (h : K.length = L.length) : (kNext K x).length = (lNext K x L m).length := by
  unfold kNext lNext
  by_cases e : K.contains x = true
  · rw [if_pos e, if_pos e]; exact h
  · rw [if_neg e, if_neg e, List.length_append, List.length_append, h]; rfl
structure SSt where
  K : List K4
  L : List M4
  S : List Nat
  T : List Nat
/-- One round of the search. -/
def SSt.vs (co : M4 → K4) (s : SSt) (m : M4) : SSt := ⟨kNext s.K (co m), lNext s.K (co m) s.L m, s.S ++ [(kNext s.K (co m)).idxOf (co m)], s.T⟩
def SSt.vt (co : M4 → K4) (s : SSt) (m : M4) : SSt := ⟨kNext s.K (co m), lNext s.K (co m) s.L m, s.S, s.T ++ [(kNext s.K (co m)).idxOf (co m)]⟩
def srun (co : M4 → K4) : Nat → SSt
  | 0 => ⟨[co (1, 0, 0, 1)], [(1, 0, 0, 1)], [], []⟩
  | i + 1 => ((srun co i).vs co (mS ((srun co i).L.getD i (0, 0, 0, 0)))).vt co (mT ((srun co i).L.getD i (0, 0, 0, 0)))
theorem srun_len (co : M4 → K4) : ∀ i, (srun co i).K.length = (srun co i).L.length ∧ (srun co i).S.length = i ∧ (srun co i).T.length = i
  | 0 => ⟨rfl, rfl, rfl⟩
  | i + 1 => by
    obtain ⟨h1, h2, h3⟩ := srun_len co i
    refine ⟨next_len (next_len h1), ?_, ?_⟩
    · show (_ ++ [_]).length = _
      rw [List.length_append, h2]; rfl
    · show (_ ++ [_]).length = _
      rw [List.length_append]
      show (srun co i).T.length + 1 = _
      rw [h3]
end Go.Proofs.Ytfiooghodjiknaa
