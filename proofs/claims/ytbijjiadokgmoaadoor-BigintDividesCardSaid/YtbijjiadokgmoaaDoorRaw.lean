/- Integers that are read by value, whatever zeros lead them: the contracts in the words of integers. -/
import Derived.Test.YtbijjiadokgmoaaDoorDivModI
import Derived.Test.YtbijjiadokgmoaaDoorSubI
import Derived.Test.YtbijjiadokgmoaaDoorNegI
namespace Go.Proofs.YtbijjiadokgmoaaDoor
open Go.RowKit

/-- A value that reads as the integer a, with at most l digits, its array below block B. -/
def Raw (w : World) (B : Nat) (v : Value) (a : Int) (l : Nat) : Prop := ∃ (n : Bool) (A : Option Addr) (c : Nat) (xs : List Nat), v = .agg #[.bool n, .slice A xs.length c] ∧ Rd w B A c xs ∧ a = sgn n (val xs) ∧ xs.length ≤ l
theorem Raw.mk {w : World} {B c l : Nat} {A : Option Addr} {n : Bool} {xs : List Nat} (h : Rd w B A c xs) (hl : xs.length ≤ l) : Raw w B (.agg #[.bool n, .slice A xs.length c]) (sgn n (val xs)) l := ⟨n, A, c, xs, rfl, h, rfl, hl⟩
theorem Raw.below {w w' : World} {B l : Nat} {v : Value} {a : Int} (h : Raw w B v a l) (hb : Below B w w') : Raw w' B v a l := by
  obtain ⟨n, A, c, xs, h1, h2, h3, h4⟩ := h
  exact ⟨n, A, c, xs, h1, h2.below hb, h3, h4⟩
theorem Raw.mono {w : World} {B B' l l' : Nat} {v : Value} {a : Int} (h : Raw w B v a l) (hB : B ≤ B') (hl : l ≤ l') : Raw w B' v a l' := by
  obtain ⟨n, A, c, xs, h1, h2, h3, h4⟩ := h
  exact ⟨n, A, c, xs, h1, h2.mono hB, h3, Nat.le_trans h4 hl⟩
theorem sgn_self (z : Int) : sgn (decide (z < 0)) z.natAbs = z := by
  unfold sgn
  by_cases h : z < 0 <;> simp [h] <;> omega
theorem IntIn.raw {w0 w : World} {v : Value} {z : Int} {l : Nat} (h : IntIn w0 w v z) (hl : (digs z.natAbs).length ≤ l) : Raw w w.heap.size v z l := by
  obtain ⟨A, c, h1, h2, _⟩ := h
  exact ⟨decide (z < 0), A, c, digs z.natAbs, h1, h2, by rw [val_digs, sgn_self], hl⟩
/-- How many digits an integer has, at most. -/
theorem Raw.len {w : World} {B l : Nat} {v : Value} {a : Int} (h : Raw w B v a l) : a.natAbs < 4294967296 ^ l := by
  obtain ⟨n, A, c, xs, _, h2, h3, h4⟩ := h
  rw [h3, sgn_abs]
  exact Nat.lt_of_lt_of_le (val_lt h2.dgs) (Nat.pow_le_pow_right (by omega) h4)
section
variable {w : World} {B l1 l2 : Nat} {v1 v2 : Value} {a b : Int}
theorem add_raw (h1 : Raw w B v1 a l1) (h2 : Raw w B v2 b l2) (hB : B ≤ w.heap.size) (b1 : l1 ≤ 1000000) (b2 : l2 ≤ 1000000) : Calls Tryd.prog 30 #[v1, v2] w (IntRet w (a + b)) := by
  obtain ⟨n, A, c, xs, rfl, r1, rfl, k1⟩ := h1
  obtain ⟨m, A', c', ys, rfl, r2, rfl, k2⟩ := h2
  exact add_any n m w r1 r2 hB (by omega) (by omega)
theorem sub_raw (h1 : Raw w B v1 a l1) (h2 : Raw w B v2 b l2) (hB : B ≤ w.heap.size) (b1 : l1 ≤ 1000000) (b2 : l2 ≤ 1000000) : Calls Tryd.prog 32 #[v1, v2] w (IntRet w (a - b)) := by
  obtain ⟨n, A, c, xs, rfl, r1, rfl, k1⟩ := h1
  obtain ⟨m, A', c', ys, rfl, r2, rfl, k2⟩ := h2
  rw [show sgn n (val xs) - sgn m (val ys) = sgn n (val xs) + sgn (!m) (val ys) by cases m <;> simp [sgn] <;> omega]
  exact sub_any n m w r1 r2 hB (by omega) (by omega)
theorem mul_raw (h1 : Raw w B v1 a l1) (h2 : Raw w B v2 b l2) (hB : B ≤ w.heap.size) (b1 : l1 ≤ 500000) (b2 : l2 ≤ 500000) (hs : l1 < 48 ∨ l2 < 48) : Calls Tryd.prog 34 #[v1, v2] w (IntRet w (a * b)) := by
  obtain ⟨n, A, c, xs, rfl, r1, rfl, k1⟩ := h1
  obtain ⟨m, A', c', ys, rfl, r2, rfl, k2⟩ := h2
  exact mul_any n m w r1 r2 hB (by omega) (by omega) (by omega)
theorem cmp_raw (h1 : Raw w B v1 a l1) (h2 : Raw w B v2 b l2) (hB : B ≤ w.heap.size) (b1 : l1 ≤ 1000000) (b2 : l2 ≤ 1000000) : Calls Tryd.prog 36 #[v1, v2] w fun e w' => e = .returned (.int .i64 (cmpZ a b)) ∧ Below w.heap.size w w' := by
  obtain ⟨n, A, c, xs, rfl, r1, rfl, k1⟩ := h1
  obtain ⟨m, A', c', ys, rfl, r2, rfl, k2⟩ := h2
  exact cmp_any n m w r1 r2 hB (by omega) (by omega)
theorem sign_raw (h1 : Raw w B v1 a l1) (hB : B ≤ w.heap.size) (b1 : l1 ≤ 1000000) : Calls Tryd.prog 22 #[v1] w fun e w' => e = .returned (.int .i64 a.sign) ∧ Below w.heap.size w w' := by
  obtain ⟨n, A, c, xs, rfl, r1, rfl, k1⟩ := h1
  exact sign_any n w r1 hB (by omega)
theorem normal_raw (h1 : Raw w B v1 a l1) (hB : B ≤ w.heap.size) (b1 : l1 ≤ 1000000) : Calls Tryd.prog 20 #[v1] w (IntRet w a) := by
  obtain ⟨n, A, c, xs, rfl, r1, rfl, k1⟩ := h1
  exact normal_any n w r1 hB (by omega)
theorem neg_raw (h1 : Raw w B v1 a l1) (hB : B ≤ w.heap.size) (b1 : l1 ≤ 1000000) : Calls Tryd.prog 26 #[v1] w (IntRet w (-a)) := by
  obtain ⟨n, A, c, xs, rfl, r1, rfl, k1⟩ := h1
  rw [show -sgn n (val xs) = sgn (!n) (val xs) by cases n <;> simp [sgn]]
  exact neg_any n w r1 hB (by omega)
theorem abs_raw (h1 : Raw w B v1 a l1) (hB : B ≤ w.heap.size) (b1 : l1 ≤ 1000000) : Calls Tryd.prog 28 #[v1] w (IntRet w (a.natAbs : Int)) := by
  obtain ⟨n, A, c, xs, rfl, r1, rfl, k1⟩ := h1
  rw [sgn_abs]
  exact abs_any n w r1 hB (by omega)
end
end Go.Proofs.YtbijjiadokgmoaaDoor
