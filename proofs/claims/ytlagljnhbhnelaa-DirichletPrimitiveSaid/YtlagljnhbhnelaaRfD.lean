/- The reference's Divisors and Psi: their values. -/
import Derived.Test.YtlagljnhbhnelaaSgnL
import Derived.Test.YtlagljnhbhnelaaBoxL
import Derived.Deep.DeepCutAuto
import Derived.Deep.CutBlock
import Derived.Deep.RegionHeld3
import Derived.IntWalk
import Derived.Deep.AppendLies
namespace Go.Proofs.Ytlagljnhbhnelaa
open Go.RowKit
set_option linter.unusedVariables false
set_option linter.unusedSimpArgs false

def iz (L : List Nat) : List Int := L.map fun x : Nat => (x : Int)
theorem iz_len (L : List Nat) : (iz L).length = L.length := by simp [iz]
theorem iz_append (L M : List Nat) : iz (L ++ M) = iz L ++ iz M := by simp [iz]
def dvP (n t : Nat) : List Nat := (List.range (t + 1)).filter fun d => decide (1 ≤ d) && decide (n % d = 0)
theorem dvP_zero (n : Nat) : dvP n 0 = [] := by unfold dvP; simp [List.range_succ]
theorem dvP_yes {n t : Nat} (h : n % (t + 1) = 0) : dvP n (t + 1) = dvP n t ++ [t + 1] := by
  unfold dvP
  rw [List.range_succ (n := t + 1), List.filter_append]
  simp [h]
theorem dvP_no {n t : Nat} (h : n % (t + 1) ≠ 0) : dvP n (t + 1) = dvP n t := by
  unfold dvP
  rw [List.range_succ (n := t + 1), List.filter_append]
  simp [h]
theorem dvP_len (n t : Nat) : (dvP n t).length ≤ t + 1 := by
  have := List.length_filter_le (fun d => decide (1 ≤ d) && decide (n % d = 0)) (List.range (t + 1))
  rwa [List.length_range] at this
structure DV (w wr : World) (v : Value) (L : List Nat) : Prop where
  own : wr.ownsRow w.heap.size 3 1 v L.length (zs (iz L))
  bel : Below w.heap.size w wr
theorem DV.push {w wr w' : World} {v v' : Value} {L : List Nat} {p : Nat} {o : Obj} (h : DV w wr v L) (hown : w'.ownsRow w.heap.size 3 1 v' (L.length + 1) (zs (iz L) ++ [.int .i64 (p : Nat)])) (hg : (wr.alloc o).grownBy w' v.ownBlock) : DV w w' v' (L ++ [p]) :=
  ⟨by rw [List.length_append, iz_append, zs_append]; exact hown, (h.bel.alloc h.bel.size o).grown hg (by have := h.bel.size; simp; omega) fun j hj => (h.own.lt j hj).1⟩
def prR (p : Nat) : Nat → Bool
  | 0 => true
  | j + 1 => prR p j && decide (p % (j + 2) ≠ 0)
def primeB (p : Nat) : Bool := prR p (p - 2)
def psR (n : Nat) : Nat → Nat
  | 0 => n
  | t + 1 => if (primeB (t + 2) && decide (n % (t + 2) = 0)) = true then psR n t / (t + 2) * (t + 3) else psR n t
def rfOk (n : Nat) : Bool := n == 0 || ((List.range n).all (fun t => decide (psR n t ≤ 1000)) && psR n (n - 1) == psV n)
set_option maxRecDepth 100000 in
theorem rf_all : (List.range 121).all rfOk = true := by decide +kernel
structure RfF (n : Nat) : Prop where
  p : ∀ t, t < n → psR n t ≤ 1000
  ps : psR n (n - 1) = psV n
theorem rf_of {n : Nat} (n1 : 1 ≤ n) (n2 : n ≤ 120) : RfF n := by
  have h := List.all_eq_true.1 rf_all n (List.mem_range.2 (by omega))
  unfold rfOk at h
  rw [Bool.or_eq_true] at h
  rcases h with h | h
  · simp at h; omega
  · simp only [Bool.and_eq_true, beq_iff_eq, List.all_eq_true, List.mem_range, decide_eq_true_eq] at h
    exact ⟨fun t ht => h.1 t ht, h.2⟩
end Go.Proofs.Ytlagljnhbhnelaa
