/- Contracts of the entries' tests: isEntry, areEntries and the reference's In, Fits. -/
import Derived.Test.YtlagljnhbhnelaaProg
import Derived.WalkKit
import Derived.Below
import Derived.Deep.QuietTactic
import Derived.BigQuiet
import Derived.Deep.Draws
import Derived.Lib.Hide
import Derived.IntWalk
import Derived.Test.YtlagljnhbhnelaaMatM
namespace Go.Proofs.Ytlagljnhbhnelaa
open Go.RowKit

theorem bcell {W w1 : World} (hb : Below W.heap.size W w1) : (∀ b o, b < W.heap.size → w1.cell? ⟨b, o, none⟩ = W.cell? ⟨b, o, none⟩) ∧ (∀ b o, b < W.heap.size → w1.frozen? ⟨b, o, none⟩ = W.frozen? ⟨b, o, none⟩) :=
  ⟨fun b o h => hb.cell (p := ⟨b, o, none⟩) h, fun b o h => hb.frozen (p := ⟨b, o, none⟩) h⟩

theorem below1 (w : World) (o : Obj) : Below w.heap.size w (w.alloc o) := (Below.refl _ _).alloc (Nat.le_refl _) _
theorem below2 (w : World) (o p : Obj) : Below w.heap.size w ((w.alloc o).alloc p) := (below1 w o).trans ((below1 _ p).mono (by simp))
theorem below3 (w : World) (o p q : Obj) : Below w.heap.size w (((w.alloc o).alloc p).alloc q) := (below2 w o p).trans ((below1 _ q).mono (by simp; omega))
theorem below4 (w : World) (o p q r : Obj) : Below w.heap.size w ((((w.alloc o).alloc p).alloc q).alloc r) := (below3 w o p q).trans ((below1 _ r).mono (by simp; omega))

theorem below_set4 {B g : Nat} {w W : World} (h : Below B w W) (hg : B ≤ g) (v0 v1 v2 v3 : Value) : Below B w ((((W.setCell ⟨g, 0, none⟩ v0).setCell ⟨g, 1, none⟩ v1).setCell ⟨g, 2, none⟩ v2).setCell ⟨g, 3, none⟩ v3) :=
  (((h.setCell hg v0).setCell hg v1).setCell hg v2).setCell hg v3
theorem below_set2 {B g : Nat} {w W : World} (h : Below B w W) (hg : B ≤ g) (v0 v1 : Value) : Below B w ((W.setCell ⟨g, 0, none⟩ v0).setCell ⟨g, 1, none⟩ v1) :=
  (h.setCell hg v0).setCell hg v1

set_option maxHeartbeats 400000 in
theorem rIn_any (n : Int) (w : World) : Calls Try.prog 32 #[.int .i64 n] w fun e w' => e = .returned (.bool (inE n)) ∧ w = w' := by
  rcases Int.lt_or_le n (-1073741824) with h | h
  · have hi := inE_no (n := n) (.inl h)
    rw [hi]
    have hd : decide (-1073741824 ≤ n) = false := decide_eq_false (by omega)
    go_enter Try.func32, Try.ntmps32
    go_wp2
    go_ret
    exact ⟨rfl, rfl⟩
  · rcases Int.lt_or_le 1073741824 n with k | k
    · have hi := inE_no (n := n) (.inr k)
      rw [hi]
      have hd : decide (-1073741824 ≤ n) = true := decide_eq_true (by omega)
      have hd2 : decide (n ≤ 1073741824) = false := decide_eq_false (by omega)
      go_enter Try.func32, Try.ntmps32
      go_wp2
      go_ret
      exact ⟨rfl, rfl⟩
    · have hi := inE_yes h k
      rw [hi]
      have hd : decide (-1073741824 ≤ n) = true := decide_eq_true (by omega)
      have hd2 : decide (n ≤ 1073741824) = true := decide_eq_true (by omega)
      go_enter Try.func32, Try.ntmps32
      go_wp2
      go_ret
      exact ⟨rfl, rfl⟩

/-- Whether four entries are within their limit. -/
def fitB (a b c d : Int) : Bool := inE a && inE b && inE c && inE d
theorem fitB_M (a b c d : Int) : fitB a b c d = (M.mk a b c d).ok := rfl
theorem fitB_iff {a b c d : Int} : fitB a b c d = true ↔ (-1073741824 ≤ a ∧ a ≤ 1073741824) ∧ (-1073741824 ≤ b ∧ b ≤ 1073741824) ∧ (-1073741824 ≤ c ∧ c ≤ 1073741824) ∧ (-1073741824 ≤ d ∧ d ≤ 1073741824) := M.ok_iff (m := ⟨a, b, c, d⟩)

end Go.Proofs.Ytlagljnhbhnelaa
