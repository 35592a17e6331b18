/- Boxes of points of the projective line; least inverses. -/
import Derived.Test.YtmikhkolbkdnpaaLawK
import Derived.Test.YtmikhkolbkdnpaaInvL
import Derived.Test.YtmikhkolbkdnpaaNfP
import Derived.Test.YtmikhkolbkdnpaaCsL
import Derived.Deep.RegionHeld3
import Derived.Deep.QuietTactic
import Derived.Deep.DeepCutAuto
import Derived.Deep.Cut
import Derived.Deep.CutBlock
import Derived.WalkSmall
import Derived.IntWalk
import Derived.BigQuiet
namespace Go.Proofs.Ytmikhkolbkdnpaa
open Go.RowKit

/-- Block g holds the point (u : v) with the unit t. -/
def Tri (w : World) (g : Nat) (u v t : Int) : Prop := w.heap[g]? = some (.cells #[.int .i64 u, .int .i64 v, .int .i64 t] 125 (0, 0))
theorem three_of_block {w : World} {g : Nat} {a b c : Value} {t : TypeId} (h : w.heap[g]? = some (.cells #[a, b, c] t (0, 0))) :
    (w.cell? ⟨g, 0, none⟩ = some a ∧ w.cell? ⟨g, 1, none⟩ = some b ∧ w.cell? ⟨g, 2, none⟩ = some c) ∧ (∀ j, w.frozen? ⟨g, j, none⟩ = false) :=
  ⟨⟨by rw [cell_of_row w g 0 _ t _ h]; rfl, by rw [cell_of_row w g 1 _ t _ h]; rfl, by rw [cell_of_row w g 2 _ t _ h]; rfl⟩, fun j => frozen_of_row w g j _ t h⟩
theorem three_set {w : World} {g : Nat} {a b c : Value} {t : TypeId} (h : w.heap[g]? = some (.cells #[a, b, c] t (0, 0))) (a' b' c' : Value) :
    (((w.setCell ⟨g, 0, none⟩ a').setCell ⟨g, 1, none⟩ b').setCell ⟨g, 2, none⟩ c').heap[g]? = some (.cells #[a', b', c'] t (0, 0)) :=
  heap_setCell_same _ g 2 #[a', b', c] t c' (heap_setCell_same _ g 1 #[a', b, c] t b' (heap_setCell_same _ g 0 #[a, b, c] t a' h))
theorem set3_ne {w : World} {g k : Nat} {o : Option Obj} (h : w.heap[k]? = o) (hn : k ≠ g) (a b c : Value) :
    (((w.setCell ⟨g, 0, none⟩ a).setCell ⟨g, 1, none⟩ b).setCell ⟨g, 2, none⟩ c).heap[k]? = o := set_ne (set_ne (set_ne h hn _) hn _) hn _
theorem below_set3 {B g : Nat} {w W : World} (h : Below B w W) (hg : B ≤ g) (v0 v1 v2 : Value) : Below B w (((W.setCell ⟨g, 0, none⟩ v0).setCell ⟨g, 1, none⟩ v1).setCell ⟨g, 2, none⟩ v2) :=
  ((h.setCell hg v0).setCell hg v1).setCell hg v2
section
variable {w w' : World} {g : Nat} {a b c : Int}
theorem Tri.below (h : Tri w g a b c) (hb : Below w.heap.size w w') : Tri w' g a b c := block_below h hb
theorem Tri.alloc (h : Tri w g a b c) (o : Obj) : Tri (w.alloc o) g a b c := block_alloc h o
theorem Tri.drew (h : Tri w g a b c) : Tri w.drew g a b c := h
theorem Tri.drewN (h : Tri w g a b c) (n : Nat) : Tri (w.drewN n) g a b c := h
theorem Tri.at (w : World) {g : Nat} (hg : g = w.heap.size) (a b c : Int) : Tri (w.alloc (.cells #[.int .i64 a, .int .i64 b, .int .i64 c] 125)) g a b c := by subst hg; exact heap_alloc_new w _
theorem Tri.set (h : Tri w g a b c) (a' b' c' : Int) : Tri (((w.setCell ⟨g, 0, none⟩ (.int .i64 a')).setCell ⟨g, 1, none⟩ (.int .i64 b')).setCell ⟨g, 2, none⟩ (.int .i64 c')) g a' b' c' := three_set h _ _ _
theorem Tri.set2 (h : Tri w g a b c) (c' : Int) : Tri (w.setCell ⟨g, 2, none⟩ (.int .i64 c')) g a b c' := heap_setCell_same _ g 2 #[.int .i64 a, .int .i64 b, .int .i64 c] _ (.int .i64 c') h
theorem Tri.other (h : Tri w g a b c) {k : Nat} (hk : g ≠ k) (v0 v1 v2 : Value) : Tri (((w.setCell ⟨k, 0, none⟩ v0).setCell ⟨k, 1, none⟩ v1).setCell ⟨k, 2, none⟩ v2) g a b c := set3_ne h hk _ _ _
theorem Tri.cells (h : Tri w g a b c) : w.cell? ⟨g, 0, none⟩ = some (.int .i64 a) ∧ w.cell? ⟨g, 1, none⟩ = some (.int .i64 b) ∧ w.cell? ⟨g, 2, none⟩ = some (.int .i64 c) := (three_of_block h).1
theorem Tri.lt (h : Tri w g a b c) : g < w.heap.size := lt_of_block h
theorem Tri.free (h : Tri w g a b c) : ∀ j, w.frozen? ⟨g, j, none⟩ = false := (three_of_block h).2
end
structure LeastInv (q m x : Int) : Prop where
  lo : 0 ≤ x
  hi : x < m
  dvd : m ∣ q * x - 1
theorem LeastInv.unique {q m x y : Int} (h : LeastInv q m x) (k : LeastInv q m y) (hg : Int.gcd q m = 1) : x = y := by
  have hd : m ∣ q * (x - y) := by
    have := Int.dvd_sub h.dvd k.dvd
    rwa [show q * x - 1 - (q * y - 1) = q * (x - y) by rw [Int.mul_sub]; omega] at this
  have h2 : m ∣ x - y := by
    have h3 := Int.natAbs_dvd_natAbs.2 hd
    rw [Int.natAbs_mul] at h3
    have hc : Nat.Coprime m.natAbs q.natAbs := by show Nat.gcd _ _ = 1; rw [Nat.gcd_comm]; exact hg
    exact Int.natAbs_dvd_natAbs.1 (hc.dvd_of_dvd_mul_left h3)
  exact same_of h2 h.lo h.hi k.lo k.hi
theorem inv_least {q m u e : Int} (hm : 1 ≤ m) (h : InvIs q m u e) : (Int.gcd q m = 1 ∧ e = 0 ∧ LeastInv q m u) ∨ (¬ Int.gcd q m = 1 ∧ e = 9) := by
  have hg : Int.gcd (q % m) m = Int.gcd q m := by
    have e := Int.mul_ediv_add_emod q m
    conv => rhs; rw [← e, Int.add_comm, Int.gcd_add_mul_left_left]
  rcases h with ⟨h1, rfl, ⟨hd, hl, hh⟩⟩ | ⟨h1, rfl, _⟩
  · refine .inl ⟨by rw [← hg]; exact h1, rfl, hl, ?_, ?_⟩
    · rw [Nat.div_one] at hh; omega
    · have e := Int.mul_ediv_add_emod q m
      have h2 : m ∣ u * (q % m) - 1 := by simpa using hd
      have h3 : q * u - 1 = (u * (q % m) - 1) + m * (q / m * u) := by
        conv => lhs; rw [← e]
        rw [Int.add_mul, Int.mul_assoc, Int.mul_comm (q % m) u]; omega
      rw [h3]
      exact Int.dvd_add h2 (Int.dvd_mul_right _ _)
  · exact .inr ⟨by rw [← hg]; exact h1, rfl⟩
theorem least_some {q m : Int} (hm : 1 ≤ m) (hg : Int.gcd q m = 1) : ∃ a, LeastInv q m a := by
  obtain ⟨r, x, hx⟩ := unit_inv hg
  obtain ⟨y, hy⟩ := dvd_mod r m
  refine ⟨r % m, Int.emod_nonneg _ (by omega), Int.emod_lt_of_pos _ (by omega), x - q * y, ?_⟩
  rw [show r % m = r - m * y by omega]
  clear hy hg
  grind
theorem inverse_at {q m a : Int} (w : World) (m1 : 1 ≤ m) (m2 : m ≤ 2147483647) (h : LeastInv q m a) : Calls Try.prog 112 #[.int .i64 q, .int .i64 m] w fun e w' => e = .returned (.tuple #[.int .i64 a, .int .i64 0]) ∧ ∃ n, w' = w.drewN n := by
  refine (inverse_yes q m w m1 m2).mono ?_
  rintro e w' ⟨u, e0, rfl, hi, rfl⟩
  have hg := unit_of h.dvd
  rcases inv_least m1 hi with ⟨_, rfl, hl⟩ | ⟨hn, _⟩
  · rw [hl.unique h hg]; exact ⟨rfl, 0, rfl⟩
  · exact absurd hg hn
end Go.Proofs.Ytmikhkolbkdnpaa
