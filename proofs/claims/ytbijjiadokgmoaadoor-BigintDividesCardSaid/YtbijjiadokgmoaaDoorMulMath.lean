/- Products, a row of multiples at a time. -/
import Derived.Test.YtbijjiadokgmoaaDoorCarry
namespace Go.Proofs.YtbijjiadokgmoaaDoor

/-- x times the first i digits of y have been added into z, which began with zeros. -/
structure Prods (x y z : List Nat) (i : Nat) : Prop where
  len : z.length = x.length + y.length
  dgs : Dgs z
  eq : val (z.take (i + x.length)) = val x * val (y.take i)
  zero : z.drop (i + x.length) = List.replicate (y.length - i) 0
theorem Prods.start (x y : List Nat) : Prods x y (List.replicate (x.length + y.length) 0) 0 := by
  refine ⟨by simp, dgs_zeros _, ?_, ?_⟩
  · rw [List.take_replicate, val_zeros]; simp [val]
  · rw [List.drop_replicate]; congr 1; omega
/-- The list after a row of multiples has been added to a part and the carry stored behind it. -/
def putRow (z part : List Nat) (i c : Nat) : List Nat := (z.take i ++ (part ++ z.drop (i + part.length))).set (i + part.length) c
theorem Prods.step {x y z part : List Nat} {i c : Nat} (h : Prods x y z i) (hi : i < y.length) (hl : part.length = x.length) (hd : Dgs part) (hc : c < 4294967296)
    (hv : val part + 4294967296 ^ x.length * c = val ((z.drop i).take x.length) + y[i] * val x) : Prods x y (putRow z part i c) (i + 1) := by
  have hz := h.len
  have e0 : (z.take i ++ (part ++ z.drop (i + part.length))).length = z.length := by simp; omega
  have ez : z.drop (i + part.length) = 0 :: List.replicate (y.length - (i + 1)) 0 := by
    rw [hl, h.zero, show y.length - i = (y.length - (i + 1)) + 1 by omega, List.replicate_succ]
  have ep : putRow z part i c = z.take i ++ (part ++ c :: List.replicate (y.length - (i + 1)) 0) := by
    unfold putRow
    rw [ez, List.set_append_right _ _ (by simp; omega), List.length_take, Nat.min_eq_left (by omega), Nat.add_sub_cancel_left, List.set_append_right _ _ (Nat.le_refl _), Nat.sub_self]
    rfl
  refine ⟨?_, ?_, ?_, ?_⟩
  · unfold putRow; rw [List.length_set, e0, hz]
  · rw [ep]
    exact dgs_append (h.dgs.take _) (dgs_append hd (dgs_cons hc (dgs_zeros _)))
  · have e1 : (putRow z part i c).take (i + 1 + x.length) = z.take i ++ (part ++ [c]) := by
      rw [ep, show z.take i ++ (part ++ c :: List.replicate (y.length - (i + 1)) 0) = (z.take i ++ (part ++ [c])) ++ List.replicate (y.length - (i + 1)) 0 by simp]
      rw [List.take_left' (by simp; omega)]
    have e2 : val (z.take (i + x.length)) = val (z.take i) + 4294967296 ^ i * val ((z.drop i).take x.length) := by
      rw [List.take_add, val_append, List.length_take, Nat.min_eq_left (by omega)]
    rw [e1, val_append, val_append, List.length_take, Nat.min_eq_left (by omega), hl, val_take_succ hi]
    simp only [val, Nat.mul_zero, Nat.add_zero]
    rw [hv, Nat.mul_add, ← Nat.add_assoc, ← e2, h.eq, Nat.mul_add]
    congr 1
    rw [Nat.mul_comm (y[i]), Nat.mul_left_comm]
  · rw [ep, show z.take i ++ (part ++ c :: List.replicate (y.length - (i + 1)) 0) = (z.take i ++ (part ++ [c])) ++ List.replicate (y.length - (i + 1)) 0 by simp]
    rw [List.drop_left' (by simp; omega)]
theorem Prods.done {x y z : List Nat} (h : Prods x y z y.length) : val z = val x * val y := by
  have e := h.eq
  rwa [List.take_length, List.take_of_length_le (by rw [h.len]; omega)] at e
end Go.Proofs.YtbijjiadokgmoaaDoor
