/- The contract of Divisors: the divisors, ascending. -/
import Derived.Test.YtoeailhcobbhjaaDivList
import Derived.Test.YtoeailhcobbhjaaFund
import Derived.Test.YtoeailhcobbhjaaShelf
import Derived.StillTailTactics
namespace Go.Proofs.Ytoeailhcobbhjaa
open Go.RowKit

theorem nats_map (M : List Nat) : nats M = (M.map fun x => ((x : Nat) : Int)).map (Value.int .i64) := by simp [nats]
/-- What slices.Sort leaves of a row of numbers. -/
def sorted (M : List Nat) : List Nat := ((M.map fun x => ((x : Nat) : Int)).mergeSort fun x y => decide (x ≤ y)).map Int.toNat
theorem sorted_len (M : List Nat) : (sorted M).length = M.length := by simp [sorted]
theorem sorted_perm (M : List Nat) : (sorted M).Perm M := by
  have h := ((List.mergeSort_perm (M.map fun x => ((x : Nat) : Int)) fun x y => decide (x ≤ y)).map Int.toNat)
  rw [List.map_map] at h
  have e : M.map (Int.toNat ∘ fun x => ((x : Nat) : Int)) = M := by
    conv => rhs; rw [← List.map_id M]
    exact List.map_congr_left fun x _ => by simp
  rwa [e] at h
theorem sorted_cast (M : List Nat) : (sorted M).map (fun x => ((x : Nat) : Int)) = (M.map fun x => ((x : Nat) : Int)).mergeSort fun x y => decide (x ≤ y) := by
  unfold sorted
  rw [List.map_map]
  conv => rhs; rw [← List.map_id ((M.map fun x => ((x : Nat) : Int)).mergeSort fun x y => decide (x ≤ y))]
  refine List.map_congr_left fun x hx => ?_
  have := (List.mergeSort_perm (M.map fun x => ((x : Nat) : Int)) fun x y => decide (x ≤ y)).mem_iff.1 hx
  obtain ⟨y, _, rfl⟩ := List.mem_map.1 this
  simp
theorem sorted_asc {M : List Nat} (h : M.Nodup) : (sorted M).Pairwise (· < ·) := by
  have h1 : ((M.map fun x => ((x : Nat) : Int)).mergeSort fun x y => decide (x ≤ y)).Pairwise (fun x y => decide (x ≤ y) = true) :=
    List.pairwise_mergeSort (fun a b c h1 h2 => by simp at *; omega) (fun a b => by simp; omega) _
  rw [← sorted_cast, List.pairwise_map] at h1
  have h2 : (sorted M).Nodup := (sorted_perm M).nodup_iff.2 h
  refine (List.Pairwise.and h1 h2).imp fun {a b} ⟨h3, h4⟩ => ?_
  simp at h3
  omega
theorem putRow_block {α : Type} [Inhabited α] (enc : α → Value) (w : World) (blk off : Nat) (d : Array α) (k : Nat) (h : k ≠ blk) : (Sort.putRow enc w blk off d).heap[k]? = w.heap[k]? := by
  simp only [Sort.putRow, Sort.mapBlock, Array.getElem?_modify]
  rw [if_neg (by omega)]
/-- slices.Sort on a row of the call's own. -/
theorem sort_own {B g cap : Nat} {M : List Nat} (w : World) (h : w.ownsRow B 3 1 (.slice (some ⟨g, 0, none⟩) M.length cap) M.length (nats M)) (hl : M.length ≤ 100000) :
    Calls Try.prog 61 #[.slice (some ⟨g, 0, none⟩) M.length cap] w fun e w' => e = .returned (.tuple #[]) ∧ w'.ownsRow B 3 1 (.slice (some ⟨g, 0, none⟩) (sorted M).length cap) (sorted M).length (nats (sorted M)) ∧ Below B w w' := by
  obtain ⟨hx, hn | ⟨g', cap', cur, hv, hb, hg, hc, hm, hs, ht⟩⟩ := h
  · exact absurd hn.1 (by simp)
  have e1 : g' = g ∧ cap' = cap := by
    injection hv with h1 h2 h3
    injection h1 with h1
    injection h1 with h1
    exact ⟨h1.symm, h3.symm⟩
  obtain ⟨rfl, rfl⟩ := e1
  have hH : Sort.Holds (Value.int .i64) w g' 0 (M.map fun x => ((x : Nat) : Int)).toArray := by
    intro j hj
    have hj2 : j < M.length := by simpa using hj
    refine ⟨?_, frozen_of_row w g' _ cur 3 hg⟩
    rw [Nat.zero_add, cell_of_row w g' j cur 3 _ hg]
    have : cur.toList[j]? = (nats M)[j]? := by
      rw [← ht, List.getElem?_take, if_pos (by omega)]
    rw [← Array.getElem?_toList, this, nats_get M j hj2]
    simp [hj2]
  have hlen : (M.map fun x => ((x : Nat) : Int)).length = M.length := by simp
  have hC := Try.slices_Sort_int g' 0 cap' (M.map fun x => ((x : Nat) : Int)) w hH (lt_of_block hg) (by rw [hlen]; omega)
  rw [hlen] at hC
  refine hC.mono fun e w' ⟨he, n, os, hw⟩ => ⟨he, ?_, ?_⟩
  · refine ⟨by simp [nats], .inr ⟨g', cap', Sort.putCells (Value.int .i64) 0 ((M.map fun x => ((x : Nat) : Int)).mergeSort fun x y => decide (x ≤ y)).toArray cur, rfl, hb, ?_, by rw [sorted_len]; exact hc, hm, by simp [Sort.putCells, hs], ?_⟩⟩
    · rw [hw, Sort.heap_grow_old _ _ (by simp [Sort.ahead]; exact lt_of_block hg)]
      simp only [Sort.putRow, Sort.mapBlock, Sort.ahead, Array.getElem?_modify, hg]
      simp [Sort.onCells]
    · rw [sorted_len, nats_map, sorted_cast, Nat.mul_one]
      have hcs : cur.size = cap' := by rw [hs, Nat.mul_one]
      refine List.ext_getElem? fun k => ?_
      rw [List.getElem?_take]
      by_cases hk : k < M.length
      · rw [if_pos hk]
        have hk2 : k < ((M.map fun x => ((x : Nat) : Int)).mergeSort fun x y => decide (x ≤ y)).length := by simp; exact hk
        rw [Array.getElem?_toList, List.getElem?_map, List.getElem?_eq_getElem hk2]
        simp only [Sort.putCells, Array.getElem?_mapIdx]
        rw [Array.getElem?_eq_getElem (by omega)]
        simp [hk]
      · rw [if_neg hk, List.getElem?_eq_none]
        simp; omega
  · rw [hw]
    refine ⟨rfl, rfl, rfl, by simp [Sort.ahead], fun k hk => ?_⟩
    have hkg : k ≠ g' := by omega
    by_cases hks : k < w.heap.size
    · rw [Sort.heap_grow_old _ _ (by simp [Sort.ahead]; exact hks), putRow_block _ _ _ _ _ _ hkg]
      rfl
    · have := lt_of_block hg
      omega
end Go.Proofs.Ytoeailhcobbhjaa
